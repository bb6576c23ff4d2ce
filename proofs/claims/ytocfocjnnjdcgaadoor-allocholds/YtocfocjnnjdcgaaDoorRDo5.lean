/-
  Moves of the document's run: compare and swap.
  Moves of the document's run: a print.
  A move of the document's run: a thread's order, whichever it is.
  What the document's Run goes by: a script's picks, the run as a plain function, the round's invariant.
  A move of the document's run that does one that waits; what can be picked, whichever the mode.
-/
import Derived.Test.YtocfocjnnjdcgaaDoorRDoP
import Derived.Test.YtocfocjnnjdcgaaDoorCOkP
import Derived.Test.YtocfocjnnjdcgaaDoorRDo6
import Derived.Test.YtocfocjnnjdcgaaDoorRDo4
import Derived.Test.YtocfocjnnjdcgaaDoorRDo8
import Derived.Test.YtocfocjnnjdcgaaDoorRunP
import Derived.Test.YtocfocjnnjdcgaaDoorDSt2
namespace Go.Proofs.YtocfocjnnjdcgaaDoor
section
open Go.RowKit

set_option maxRecDepth 100000 in
set_option maxHeartbeats 3200000 in
theorem do_13 (w : World) (B sb : Nat) (P : Pg) (v : Rl → Value) (s : Sx) (A : Nat → Option Addr) (L C : Nat → Nat) (X : Nat → Nat → Nat → Int) (m lk rg t : Nat) (mv : Int) (_h0 : 0 ≤ mv) (_h1 : mv ≤ 1000) (hq : mv / 8 = t) (hr : mv % 8 = 0) (hx : Cx w B sb P v s A L C X m lk rg t) (hop : opT X s t 0 = 13) :
    Calls Tryd.prog 80 #[.pointer (some ⟨sb, 0, none⟩), .int .i64 mv] w (DoQ B sb P v w (orderX P.mode (stepS s t) t 13 (opT X s t 1) (opT X s t 2) (opT X s t 3))) := by
  obtain ⟨n, tb, tc, rb, rc, pc, ⟨htn, hn4, hpc4⟩, HPC, c5, HNX, HPRE⟩ := hx.pre
  have htl : t < s.ths.length := by have := hx.ho.ths; have := hx.ht; omega
  have hrl : (thOf s t).regs.length = rg := hx.ho.regs t hx.ht
  have hord := hx.hc.ord t (thOf s t).pc hx.ht hx.hlt
  have hsz := hx.hc.L4 t hx.ht
  have hrg2 := hx.hc.rg2
  change ordE rg m lk (L t) (opT X s t 0) (opT X s t 1) (opT X s t 2) (opT X s t 3) = 0 at hord
  rw [hop] at hord
  rw [hop] at HNX
  obtain ⟨a, ea⟩ : ∃ x, opT X s t 1 = x := ⟨_, rfl⟩
  obtain ⟨b, eb⟩ : ∃ x, opT X s t 2 = x := ⟨_, rfl⟩
  obtain ⟨c, ec⟩ : ∃ x, opT X s t 3 = x := ⟨_, rfl⟩
  rw [ea, eb, ec] at hord HNX ⊢
  clear ea eb ec
  obtain ⟨⟨ia, rfl, ha⟩, ⟨ib, rfl, hb⟩, ⟨ic, rfl, hc⟩⟩ := by
    have h3 := ok_cas hord
    exact (⟨toN h3.1, toN h3.2.1, toN h3.2.2⟩ : _ ∧ _ ∧ _)
  have hwl : s.words.length = m := hx.ho.words
  have hol : s.own.length = lk := hx.ho.own
  have hm64 := hx.hc.m64
  have hlk4 := hx.hc.lk4
  have hw3 := hx.ho.wlen t hx.ht
  have hthn := hx.ho.ths
  have hpn4 := hx.hc.n4
  have hsl : (stepS s t).ths.length = s.ths.length := stepS_len s t
  have hsw : (thOf (stepS s t) t).wait.length ≤ 3 := by rw [stepS_wait htl]; exact hw3
  obtain ⟨Vb, eb⟩ : ∃ x, getR s t (ib : Int) = x := ⟨_, rfl⟩
  have HVb : Hid (getR s t (ib : Int) = Vb) := eb
  obtain ⟨Vc, ec⟩ : ∃ x, getR s t (ic : Int) = x := ⟨_, rfl⟩
  have HVc : Hid (getR s t (ic : Int) = Vc) := ec
  obtain ⟨VW, eW⟩ : ∃ x, s.words.getD ia 0 = x := ⟨_, rfl⟩
  have HVW : Hid (s.words.getD ia 0 = VW) := eW
  clear eb ec eW
  by_cases hin : VW = Vb
  · subst hin
    have HST : Hid (orderX P.mode (stepS s t) t 13 (ia : Int) (ib : Int) (ic : Int) = setR { stepS s t with words := (stepS s t).words.set ia Vc } t (ib : Int) 1) := by
      show (if (stepS s t).words.getD ia 0 = getR (stepS s t) t (ib : Int) then setR { stepS s t with words := (stepS s t).words.set ia (getR (stepS s t) t (ic : Int)) } t (ib : Int) 1 else _) = _
      rw [stepS_getR htl, stepS_getR htl, HVb.out, HVc.out, if_pos (by exact HVW.out)]
    have HX := Hid.out (p := Hid _) hx
    clear hx hord hop hsz
    go_enter Tryd.func80, Tryd.ntmps80
    go_wp2_with fail
    refine Calls.mono HNX.out ?_
    rintro e w1 ⟨rfl, hb1⟩
    have HP := HPRE.out w1 hb1
    have d5 := HP.c5
    have dp := HP.cp
    have df := HP.cf
    have dr := HP.cr
    have nrt := HP.nrt
    have ntr := HP.ntr
    have lrb := HP.lrb
    have ltb := HP.ltb
    have wb := HP.regW htl (r := ib) (by omega)
    rw [HVb.out] at wb
    have wc := HP.regW htl (r := ic) (by omega)
    rw [HVc.out] at wc
    obtain ⟨wb, wc, hwv, hwb, hlw⟩ := HP.D.wordsB (by show 0 < s.words.length; omega)
    have ntw := HP.D.fam.ne HP.btb hwb (by simp)
    have nwt := HP.D.fam.ne hwb HP.btb (by simp)
    have nrw := HP.D.fam.ne HP.brb hwb (by simp)
    have nwr := HP.D.fam.ne hwb HP.brb (by simp)
    have c6 := HP.D.c6
    rw [hwv, show (stepS s t).words.length = s.words.length from rfl, hwl] at c6
    have c6' := (World.cell?_of_block (w := w1) (a := ⟨sb, 6, none⟩) (Below.heap_setCell _ _ _ _ HP.nst)).symm.trans c6
    have co := HP.D.word hwb (r := ia) (by show ia < s.words.length; omega)
    have co' := (World.cell?_of_block (w := w1) (a := ⟨wb, ia, none⟩) (Below.heap_setCell _ _ _ _ nwt)).symm.trans co
    have fo := HP.D.fam.frozen hwb ia
    have fo' := (World.frozen?_of_block (w := w1) (a := ⟨wb, ia, none⟩) (Below.heap_setCell _ _ _ _ nwt)).symm.trans fo
    have fb := HP.frz ib
    have nst := HP.nst
    have nts := HP.nts
    have lsb := HP.lsb
    have lwb : wb < w1.heap.size := by simpa [World.setCell] using hlw
    rw [show (stepS s t).words.getD ia 0 = s.words.getD ia 0 from rfl, HVW.out] at co'
    have HF : Hid (∀ o, DSt ((((w1.setCell ⟨tb, t * 3, none⟩ (.int .i64 ((pc : Int) + 1))).alloc o).setCell ⟨wb, ia, none⟩ (.int .i64 Vc)).setCell ⟨rb, ib, none⟩ (.int .i64 1)) B P sb v (setR { stepS s t with words := (stepS s t).words.set ia Vc } t (ib : Int) 1) ∧ Moved w ((((w1.setCell ⟨tb, t * 3, none⟩ (.int .i64 ((pc : Int) + 1))).alloc o).setCell ⟨wb, ia, none⟩ (.int .i64 Vc)).setCell ⟨rb, ib, none⟩ (.int .i64 1)) v v) := fun o => ⟨((HP.D.alloc o).setWord hwb ia Vc).setReg HP.brb (by show t < (stepS s t).ths.length; rw [hsl]; exact htl) ib 1, ((HP.M.alloc o).put hwb ia _).put HP.brb ib _⟩
    clear HP HPRE HNX hwv hwb c6 co fo hlw
    go_wp2
    go_quiet (fail)
    go_wp2
    refine region_tail 12 (by kernel_rfl) (by kernel_rfl) ?_
    simp only [List.take_succ_cons, List.take_zero, List.drop_succ_cons, List.drop_zero]
    repeat still_step
    refine wpStill_nil ?_
    go_wp2
    all_goals go_end0
    all_goals refine ⟨rfl, v, ?_⟩
    all_goals rw [HST.out]
    all_goals exact ⟨DSt.same (HF.out _).1 rfl, Moved.same (HF.out _).2 rfl rfl rfl rfl⟩
  · have HST : Hid (orderX P.mode (stepS s t) t 13 (ia : Int) (ib : Int) (ic : Int) = setR (stepS s t) t (ib : Int) 0) := by
      show (if (stepS s t).words.getD ia 0 = getR (stepS s t) t (ib : Int) then _ else setR (stepS s t) t (ib : Int) 0) = _
      rw [stepS_getR htl, HVb.out, if_neg (by show ¬ s.words.getD ia 0 = Vb; rw [HVW.out]; exact hin)]
    have HX := Hid.out (p := Hid _) hx
    clear hx hord hop hsz
    go_enter Tryd.func80, Tryd.ntmps80
    go_wp2_with fail
    refine Calls.mono HNX.out ?_
    rintro e w1 ⟨rfl, hb1⟩
    have HP := HPRE.out w1 hb1
    have d5 := HP.c5
    have dp := HP.cp
    have df := HP.cf
    have dr := HP.cr
    have nrt := HP.nrt
    have ntr := HP.ntr
    have lrb := HP.lrb
    have ltb := HP.ltb
    have wb := HP.regW htl (r := ib) (by omega)
    rw [HVb.out] at wb
    obtain ⟨wb, wc, hwv, hwb, hlw⟩ := HP.D.wordsB (by show 0 < s.words.length; omega)
    have ntw := HP.D.fam.ne HP.btb hwb (by simp)
    have nwt := HP.D.fam.ne hwb HP.btb (by simp)
    have nrw := HP.D.fam.ne HP.brb hwb (by simp)
    have nwr := HP.D.fam.ne hwb HP.brb (by simp)
    have c6 := HP.D.c6
    rw [hwv, show (stepS s t).words.length = s.words.length from rfl, hwl] at c6
    have c6' := (World.cell?_of_block (w := w1) (a := ⟨sb, 6, none⟩) (Below.heap_setCell _ _ _ _ HP.nst)).symm.trans c6
    have co := HP.D.word hwb (r := ia) (by show ia < s.words.length; omega)
    have co' := (World.cell?_of_block (w := w1) (a := ⟨wb, ia, none⟩) (Below.heap_setCell _ _ _ _ nwt)).symm.trans co
    have fo := HP.D.fam.frozen hwb ia
    have fo' := (World.frozen?_of_block (w := w1) (a := ⟨wb, ia, none⟩) (Below.heap_setCell _ _ _ _ nwt)).symm.trans fo
    have fb := HP.frz ib
    have nst := HP.nst
    have nts := HP.nts
    have lsb := HP.lsb
    have lwb : wb < w1.heap.size := by simpa [World.setCell] using hlw
    rw [show (stepS s t).words.getD ia 0 = s.words.getD ia 0 from rfl, HVW.out] at co'
    have HF : Hid (∀ o, DSt (((w1.setCell ⟨tb, t * 3, none⟩ (.int .i64 ((pc : Int) + 1))).alloc o).setCell ⟨rb, ib, none⟩ (.int .i64 0)) B P sb v (setR (stepS s t) t (ib : Int) 0) ∧ Moved w (((w1.setCell ⟨tb, t * 3, none⟩ (.int .i64 ((pc : Int) + 1))).alloc o).setCell ⟨rb, ib, none⟩ (.int .i64 0)) v v) := fun o => ⟨(HP.D.alloc o).setReg HP.brb (by rw [hsl]; exact htl) ib 0, (HP.M.alloc o).put HP.brb ib _⟩
    clear HP HPRE HNX hwv hwb c6 co fo hlw
    go_wp2
    go_quiet (fail)
    go_wp2
    all_goals go_end0
    all_goals refine ⟨rfl, v, ?_⟩
    all_goals rw [HST.out]
    all_goals exact ⟨DSt.same (HF.out _).1 rfl, Moved.same (HF.out _).2 rfl rfl rfl rfl⟩
end

section
open Go.RowKit

attribute [local go_sem ↓] appS_eq
set_option maxRecDepth 100000 in
set_option maxHeartbeats 3200000 in
theorem do_16 (w : World) (B sb : Nat) (P : Pg) (v : Rl → Value) (s : Sx) (A : Nat → Option Addr) (L C : Nat → Nat) (X : Nat → Nat → Nat → Int) (m lk rg t : Nat) (mv : Int) (_h0 : 0 ≤ mv) (_h1 : mv ≤ 1000) (hq : mv / 8 = t) (hr : mv % 8 = 0) (hx : Cx w B sb P v s A L C X m lk rg t) (hop : opT X s t 0 = 16) :
    Calls Tryd.prog 80 #[.pointer (some ⟨sb, 0, none⟩), .int .i64 mv] w (DoQ B sb P v w (orderX P.mode (stepS s t) t 16 (opT X s t 1) (opT X s t 2) (opT X s t 3))) := by
  obtain ⟨n, tb, tc, rb, rc, pc, ⟨htn, hn4, hpc4⟩, HPC, c5, HNX, HPRE⟩ := hx.pre
  have htl : t < s.ths.length := by have := hx.ho.ths; have := hx.ht; omega
  have hrl : (thOf s t).regs.length = rg := hx.ho.regs t hx.ht
  have hord := hx.hc.ord t (thOf s t).pc hx.ht hx.hlt
  have hsz := hx.hc.L4 t hx.ht
  have hrg2 := hx.hc.rg2
  change ordE rg m lk (L t) (opT X s t 0) (opT X s t 1) (opT X s t 2) (opT X s t 3) = 0 at hord
  rw [hop] at hord
  rw [hop] at HNX
  obtain ⟨a, ea⟩ : ∃ x, opT X s t 1 = x := ⟨_, rfl⟩
  obtain ⟨b, eb⟩ : ∃ x, opT X s t 2 = x := ⟨_, rfl⟩
  obtain ⟨c, ec⟩ : ∃ x, opT X s t 3 = x := ⟨_, rfl⟩
  rw [ea, eb, ec] at hord HNX ⊢
  clear ea eb ec
  obtain ⟨ia, rfl, ha⟩ := toN (ok_print hord)
  have hwl : s.words.length = m := hx.ho.words
  have hol : s.own.length = lk := hx.ho.own
  have hm64 := hx.hc.m64
  have hlk4 := hx.hc.lk4
  have hw3 := hx.ho.wlen t hx.ht
  have hthn := hx.ho.ths
  have hpn4 := hx.hc.n4
  have hsl : (stepS s t).ths.length = s.ths.length := stepS_len s t
  have hsw : (thOf (stepS s t) t).wait.length ≤ 3 := by rw [stepS_wait htl]; exact hw3
  obtain ⟨Va, ea⟩ : ∃ x, getR s t (ia : Int) = x := ⟨_, rfl⟩
  have HVa : Hid (getR s t (ia : Int) = Va) := ea
  clear ea
  have hpr := hx.hpr
  have hBw := hx.hB
  have HST : Hid (orderX P.mode (stepS s t) t 16 (ia : Int) b c = { stepS s t with prints := (stepS s t).prints ++ [(t : Int), Va] }) := by
    show { stepS s t with prints := (stepS s t).prints ++ [(t : Int), getR (stepS s t) t (ia : Int)] } = _
    rw [stepS_getR htl, HVa.out]
  have HX := Hid.out (p := Hid _) hx
  clear hx hord hop hsz
  go_enter Tryd.func80, Tryd.ntmps80
  go_wp2_with fail
  refine Calls.mono HNX.out ?_
  rintro e w1 ⟨rfl, hb1⟩
  have HP := HPRE.out w1 hb1
  have d5 := HP.c5
  have dp := HP.cp
  have df := HP.cf
  have dr := HP.cr
  have nrt := HP.nrt
  have ntr := HP.ntr
  have lrb := HP.lrb
  have ltb := HP.ltb
  have wa := HP.regW htl (r := ia) (by omega)
  rw [HVa.out] at wa
  have nst := HP.nst
  have nts := HP.nts
  have lsb := HP.lsb
  obtain ⟨pa, pcap, hpv⟩ := HP.D.printsV
  rw [show (stepS s t).prints.length = s.prints.length from rfl] at hpv
  have c8 := HP.D.c8
  rw [hpv] at c8
  have f8 := HP.D.fam.frozen HP.D.bblk 8
  have hWs : B ≤ (w1.setCell ⟨tb, t * 3, none⟩ (.int .i64 ((pc : Int) + 1))).heap.size := by have := HP.M.size; omega
  have hsz1 : (w1.setCell ⟨tb, t * 3, none⟩ (.int .i64 ((pc : Int) + 1))).heap.size = w1.heap.size := by simp [World.setCell]
  obtain ⟨g, cap, w3, hr1, hr2, hr3, hr4⟩ := app_row (T := 23) Tryd.underlying23 infoI rfl (by omega) (HP.D.fam.own .prints) ((((Below.refl _ (w1.setCell ⟨tb, t * 3, none⟩ (.int .i64 ((pc : Int) + 1)))).alloc (Nat.le_refl _) (.cells #[.int .i64 16, .int .i64 (ia : Int), .int .i64 b, .int .i64 c] 55))).drew) hWs 2 #[.int .i64 (t : Int), .int .i64 Va] rfl (by simp [Value.oneCell']) (by omega) (by show s.prints.length + 2 ≤ _; omega) (by omega)
  have hne : some sb ≠ (v .prints).ownBlock := fun e => absurd (HP.D.fam.apart _ _ sb HP.D.bblk e.symm) (by simp)
  have q8 := hr3.cell (cell_up2 c8 (.cells #[.int .i64 16, .int .i64 (ia : Int), .int .i64 b, .int .i64 c] 55) (.cells #[.int .i64 (t : Int), .int .i64 Va] 3)) hne
  have qf : w3.frozen? ⟨sb, 8, none⟩ = false := (hr3.frozen_far ⟨sb, 8, none⟩ (by simp [World.setCell]; omega) hne).trans (frozen_up2 (by simp [World.setCell]; omega) f8 _ _)
  have hD1 := (HP.D.below (((((Below.refl _ (w1.setCell ⟨tb, t * 3, none⟩ (.int .i64 ((pc : Int) + 1)))).alloc (Nat.le_refl _) (.cells #[.int .i64 16, .int .i64 (ia : Int), .int .i64 b, .int .i64 c] 55))).drew).alloc (by simp) (.cells #[.int .i64 (t : Int), .int .i64 Va] 3))).print (a := (t : Int)) (b := Va) hr2 hr3 hr4 (by simp)
  have hM1 := ((((HP.M.alloc (.cells #[.int .i64 16, .int .i64 (ia : Int), .int .i64 b, .int .i64 c] 55)).drew).alloc (.cells #[.int .i64 (t : Int), .int .i64 Va] 3)).grow (r := .prints) (m := s.prints.length + 2) (c := cap) hr3 hr4 (by simp)).put (r := .box) (g := sb) (by rw [upd_ne _ _ (by simp)]; exact HP.D.bblk) 8 (.slice (some ⟨g, 0, none⟩) (s.prints.length + 2) cap)
  have HF : Hid (∃ v', DSt (w3.setCell ⟨sb, 8, none⟩ (.slice (some ⟨g, 0, none⟩) (s.prints.length + 2) cap)) B P sb v' { stepS s t with prints := (stepS s t).prints ++ [(t : Int), Va] } ∧ Moved w (w3.setCell ⟨sb, 8, none⟩ (.slice (some ⟨g, 0, none⟩) (s.prints.length + 2) cap)) v v') := ⟨_, hD1, hM1⟩
  have hrun : (AppS #[23, 23] 23 #[.slice pa s.prints.length pcap, .slice (some ⟨w1.heap.size + 1, 0, none⟩) 2 2]).run Tryd.prog (((w1.setCell ⟨tb, t * 3, none⟩ (.int .i64 ((pc : Int) + 1))).alloc (.cells #[.int .i64 16, .int .i64 (ia : Int), .int .i64 b, .int .i64 c] 55)).alloc (.cells #[.int .i64 (t : Int), .int .i64 Va] 3)).drew = .ok (.slice (some ⟨g, 0, none⟩) (s.prints.length + 2) cap) w3 := by
    have e : ((w1.setCell ⟨tb, t * 3, none⟩ (.int .i64 ((pc : Int) + 1))).alloc (.cells #[.int .i64 16, .int .i64 (ia : Int), .int .i64 b, .int .i64 c] 55)).drew.heap.size = w1.heap.size + 1 := by simp [World.setCell]
    rw [e] at hr1
    rw [← hpv]
    exact hr1
  have k8 := cell_up c8
  have k82 := cell_up2 c8
  have c8' := (World.cell?_of_block (w := w1) (a := ⟨sb, 8, none⟩) (Below.heap_setCell _ _ _ _ HP.nst)).symm.trans c8
  obtain ⟨np, hnp⟩ : ∃ x, s.prints.length = x := ⟨_, rfl⟩
  rw [hnp] at HF hrun k8 k82 q8 c8' c8 hpr
  clear HP HPRE HNX hpv hr1 hr2 hr3 hr4 hne hD1 hM1 hWs hnp
  go_wp2
  go_region
  all_goals go_wp2
  all_goals go_end0
  all_goals obtain ⟨v2, hv2⟩ := HF.out
  all_goals refine ⟨rfl, v2, ?_⟩
  all_goals rw [HST.out]
  all_goals exact hv2
end

section
open Go.RowKit

theorem doX_order {X : Nat → Nat → Nat → Int} {mode : Int} {s : Sx} {t : Nat} : doX X mode s (8 * t) = orderX mode (stepS s t) t (opT X s t 0) (opT X s t 1) (opT X s t 2) (opT X s t 3) := by
  unfold doX
  simp only [show 8 * t / 8 = t by omega, show 8 * t % 8 = 0 by omega]
  rfl
theorem do_order (w : World) (B sb : Nat) (P : Pg) (v : Rl → Value) (s : Sx) (A : Nat → Option Addr) (L C : Nat → Nat) (X : Nat → Nat → Nat → Int) (m lk rg t : Nat) (hx : Cx w B sb P v s A L C X m lk rg t) :
    Calls Tryd.prog 80 #[.pointer (some ⟨sb, 0, none⟩), .int .i64 (8 * (t : Int))] w (DoQ B sb P v w (doX X P.mode s (8 * t))) := by
  have ht : t < P.n := hx.ht
  have hn := hx.hc.n4
  have h0 : 0 ≤ 8 * (t : Int) := by omega
  have h1 : 8 * (t : Int) ≤ 1000 := by omega
  have hq : 8 * (t : Int) / 8 = t := by omega
  have hr : 8 * (t : Int) % 8 = 0 := by omega
  rw [doX_order]
  have hop := ok_op (hx.hc.ord t (thOf s t).pc hx.ht hx.hlt)
  change 1 ≤ opT X s t 0 ∧ opT X s t 0 ≤ 18 at hop
  rcases (by omega : opT X s t 0 = 1 ∨ opT X s t 0 = 2 ∨ opT X s t 0 = 3 ∨ opT X s t 0 = 4 ∨ opT X s t 0 = 5 ∨ opT X s t 0 = 6 ∨ opT X s t 0 = 7 ∨ opT X s t 0 = 8 ∨ opT X s t 0 = 9 ∨ opT X s t 0 = 10 ∨ opT X s t 0 = 11 ∨ opT X s t 0 = 12 ∨ opT X s t 0 = 13 ∨ opT X s t 0 = 14 ∨ opT X s t 0 = 15 ∨ opT X s t 0 = 16 ∨ opT X s t 0 = 17 ∨ opT X s t 0 = 18) with h | h | h | h | h | h | h | h | h | h | h | h | h | h | h | h | h | h
  · rw [h]; exact do_1 w B sb P v s A L C X m lk rg t _ h0 h1 hq hr hx h
  · rw [h]; exact do_2 w B sb P v s A L C X m lk rg t _ h0 h1 hq hr hx h
  · rw [h]; exact do_3 w B sb P v s A L C X m lk rg t _ h0 h1 hq hr hx h
  · rw [h]; exact do_4 w B sb P v s A L C X m lk rg t _ h0 h1 hq hr hx h
  · rw [h]; exact do_5 w B sb P v s A L C X m lk rg t _ h0 h1 hq hr hx h
  · rw [h]; exact do_6 w B sb P v s A L C X m lk rg t _ h0 h1 hq hr hx h
  · rw [h]; exact do_7 w B sb P v s A L C X m lk rg t _ h0 h1 hq hr hx h
  · rw [h]; exact do_8 w B sb P v s A L C X m lk rg t _ h0 h1 hq hr hx h
  · rw [h]; exact do_9 w B sb P v s A L C X m lk rg t _ h0 h1 hq hr hx h
  · rw [h]; exact do_10 w B sb P v s A L C X m lk rg t _ h0 h1 hq hr hx h
  · rw [h]; exact do_11 w B sb P v s A L C X m lk rg t _ h0 h1 hq hr hx h
  · rw [h]; exact do_12 w B sb P v s A L C X m lk rg t _ h0 h1 hq hr hx h
  · rw [h]; exact do_13 w B sb P v s A L C X m lk rg t _ h0 h1 hq hr hx h
  · rw [h]; exact do_14 w B sb P v s A L C X m lk rg t _ h0 h1 hq hr hx h
  · rw [h]; exact do_15 w B sb P v s A L C X m lk rg t _ h0 h1 hq hr hx h
  · rw [h]; exact do_16 w B sb P v s A L C X m lk rg t _ h0 h1 hq hr hx h
  · rw [h]; exact do_17 w B sb P v s A L C X m lk rg t _ h0 h1 hq hr hx h
  · rw [h]; exact do_18 w B sb P v s A L C X m lk rg t _ h0 h1 hq hr hx h

theorem SOk.step {n : Nat} {L : Nat → Nat} {X : Nat → Nat → Nat → Int} {m lk rg : Nat} {mode : Int} {s : Sx} (h : SOk n L m lk rg mode s) (hc : COk n L X m lk rg) (hm : 0 ≤ mode) {t : Nat} (ht : t < n) (ha : ableT L X s t = true) : SOk n L m lk rg mode (doX X mode s (8 * t)) := by
  rw [doX_order]
  have hlt := able_lt ha
  have h1 : SOk n L m lk rg mode (stepS s t) := h.setPc ht (by omega)
  have htl : t < s.ths.length := by rw [h.ths]; exact ht
  exact h1.order ht hm (fun ho => by rw [stepS_wait htl]; exact able_room ha ho) (hc.ord t _ ht hlt)
theorem prints_step {X : Nat → Nat → Nat → Int} {mode : Int} {s : Sx} {t : Nat} : (doX X mode s (8 * t)).prints.length ≤ s.prints.length + 2 := by
  rw [doX_order]
  exact prints_order (stepS s t) t _ _ _ _
end

section
open Go.RowKit

/-- What can be picked can be done. -/
def DoOk (P : Pg) (A : Nat → Option Addr) (L C : Nat → Nat) (X : Nat → Nat → Nat → Int) (m lk rg : Nat) : Prop :=
  ∀ (w : World) (B sb : Nat) (v : Rl → Value) (s : Sx) (mv : Int), DSt w B P sb v s → B ≤ w.heap.size → SOk P.n L m lk rg P.mode s → PIn w P.ca P.n A L C X → s.prints.length ≤ 20000 → mv ∈ movesX L X P.mode s →
    Calls Tryd.prog 80 #[.pointer (some ⟨sb, 0, none⟩), .int .i64 mv] w (DoQ B sb P v w (doX X P.mode s mv.toNat)) ∧ SOk P.n L m lk rg P.mode (doX X P.mode s mv.toNat) ∧ (doX X P.mode s mv.toNat).prints.length ≤ s.prints.length + 2
theorem begin_ok {n : Nat} {L : Nat → Nat} {words : List Int} {lk rg : Nat} {mode : Int} : SOk n L words.length lk rg mode (beginX n words lk rg) := by
  have e : ∀ t, t < n → thOf (beginX n words lk rg) t = { pc := 0, regs := List.replicate ((rg : Int)).toNat 0, wait := [] } := fun t ht => by
    unfold thOf beginX
    simp [List.getD, ht]
  refine ⟨by simp [beginX], fun t ht => ?_, fun t ht => ?_, rfl, by simp [beginX], fun t ht => ?_, fun t ht => ?_, fun _ t ht => ?_⟩
  all_goals rw [e t ht]
  · exact Nat.zero_le _
  · simp
  · simp
  · intro x hx; cases hx
end

section
open Go.RowKit

/-- Cells that are stored one behind the other. -/
def putL (xs : List Value) (o : Nat) : List Value → List Value
  | [] => xs
  | u :: us => putL (xs.set o u) (o + 1) us
theorem fam_puts {B : Nat} {e : TypeId} {size : Nat} {v : Value} {n g : Nat} (hg : v.ownBlock = some g) : ∀ (us : List Value) (o : Nat) (w : World) (xs : List Value), w.ownsRow B e size v n xs → (w.setCells g o us).ownsRow B e size v n (putL xs o us)
  | [], _, _, _, h => h
  | u :: us, o, w, _, h => fam_puts hg us (o + 1) (w.setCell ⟨g, o, none⟩ u) _ (fam_put h hg o u)
theorem fam_shrink {w : World} {B : Nat} {e : TypeId} {size : Nat} {n m g cap : Nat} {xs : List Value} (h : w.ownsRow B e size (.slice (some ⟨g, 0, none⟩) n cap) n xs) (hm : m ≤ n) : w.ownsRow B e size (.slice (some ⟨g, 0, none⟩) m cap) m (xs.take (m * size)) := by
  obtain ⟨h0, h1⟩ := h
  have hmul : m * size ≤ n * size := Nat.mul_le_mul_right _ hm
  refine ⟨by rw [List.length_take, h0]; omega, ?_⟩
  rcases h1 with ⟨h1, _⟩ | ⟨g', cap', cur, hv, hg, hh, h2, h3, h4, h5⟩
  · simp at h1
  · simp only [Value.slice.injEq, Option.some.injEq, Addr.mk.injEq, and_true] at hv
    obtain ⟨rfl, _, rfl⟩ := hv
    exact Or.inr ⟨g, cap, cur, rfl, hg, hh, Nat.le_trans hm h2, h3, h4, by rw [← h5, List.take_take, Nat.min_eq_left hmul]⟩
theorem grown_puts (g : Nat) : ∀ (vs : List Value) (o : Nat) (w : World), w.grownBy (w.setCells g o vs) (some g)
  | [], _, _ => ⟨rfl, rfl, rfl, Nat.le_refl _, fun _ _ _ => rfl⟩
  | u :: us, o, w => by
    have h := grown_puts g us (o + 1) (w.setCell ⟨g, o, none⟩ u)
    have hz : (w.setCell ⟨g, o, none⟩ u).heap.size = w.heap.size := by simp [World.setCell]
    exact ⟨h.os, h.tape, h.output, by have := h.size; rw [hz] at this; exact this, fun k hk hne => (h.block k (by rw [hz]; exact hk) hne).trans (Below.heap_setCell _ _ _ _ (fun e => hne (by rw [e])))⟩
theorem waitV_1 (a : Wt) : waitV [a] = [.bool a.lk, .int .i64 a.wh, .int .i64 a.what] := waitV_snoc [] a
theorem waitV_2 (a b : Wt) : waitV [a, b] = [.bool a.lk, .int .i64 a.wh, .int .i64 a.what, .bool b.lk, .int .i64 b.wh, .int .i64 b.what] := by
  rw [show [a, b] = [a] ++ [b] from rfl, waitV_snoc, waitV_1]; rfl
theorem waitV_3 (a b c : Wt) : waitV [a, b, c] = [.bool a.lk, .int .i64 a.wh, .int .i64 a.what, .bool b.lk, .int .i64 b.wh, .int .i64 b.what, .bool c.lk, .int .i64 c.wh, .int .i64 c.what] := by
  rw [show [a, b, c] = [a, b] ++ [c] from rfl, waitV_snoc, waitV_2]; rfl
/-- One taken out of at most three that wait. -/
theorem waitV_cut {l : List Wt} {k : Nat} (hl : l.length ≤ 3) (hk : k < l.length) : (putL (waitV l) (k * 3) ((waitV l).drop ((k + 1) * 3))).take ((l.length - 1) * 3) = waitV (l.eraseIdx k) := by
  match l, k, hl, hk with
  | [a], 0, _, _ => rfl
  | [a, b], 0, _, _ => rw [waitV_2]; rw [show [a, b].eraseIdx 0 = [b] from rfl, waitV_1]; rfl
  | [a, b], 1, _, _ => rw [waitV_2]; rw [show [a, b].eraseIdx 1 = [a] from rfl, waitV_1]; rfl
  | [a, b, c], 0, _, _ => rw [waitV_3]; rw [show [a, b, c].eraseIdx 0 = [b, c] from rfl, waitV_2]; rfl
  | [a, b, c], 1, _, _ => rw [waitV_3]; rw [show [a, b, c].eraseIdx 1 = [a, c] from rfl, waitV_2]; rfl
  | [a, b, c], 2, _, _ => rw [waitV_3]; rw [show [a, b, c].eraseIdx 2 = [a, b] from rfl, waitV_2]; rfl
theorem waitC_one (x : Wt) (j : Nat) : (waitC x j).oneCell' = true := by
  unfold waitC
  split
  · rfl
  · split <;> rfl
theorem waitV_len (l : List Wt) : (waitV l).length = l.length * 3 := rows3_len _ _

/-- What can be picked: an order of a thread that is able, or one that waits and may be done. -/
theorem movesX_mem {L : Nat → Nat} {X : Nat → Nat → Nat → Int} {mode : Int} {s : Sx} {mv : Int} (h : mv ∈ movesX L X mode s) : (∃ t, t < s.ths.length ∧ mv = 8 * (t : Int) ∧ ableT L X s t = true) ∨ ∃ t k, t < s.ths.length ∧ k < (thOf s t).wait.length ∧ mv = 8 * (t : Int) + (k : Int) + 1 ∧ mayW mode (thOf s t).wait k = true := by
  unfold movesX at h
  rw [List.mem_flatMap] at h
  obtain ⟨t, ht, h⟩ := h
  have htn : t < s.ths.length := by simpa using ht
  unfold movesT at h
  rw [List.mem_append] at h
  rcases h with h | h
  · by_cases ha : ableT L X s t = true
    · rw [if_pos ha] at h
      exact Or.inl ⟨t, htn, by simpa using h, ha⟩
    · rw [if_neg ha] at h
      cases h
  · rw [List.mem_map] at h
    obtain ⟨k, hk, e⟩ := h
    rw [List.mem_filter] at hk
    exact Or.inr ⟨t, k, htn, by simpa using hk.1, e.symm, hk.2⟩
theorem doX_wait {X : Nat → Nat → Nat → Int} {mode : Int} {s : Sx} {t k : Nat} (hk : k < 7) : doX X mode s (8 * t + k + 1) = setTh (doneW s ((thOf s t).wait.getD k default)) t { thOf s t with wait := (thOf s t).wait.eraseIdx k } := by
  have hth : ∀ x, thOf (doneW s x) t = thOf s t := fun x => by unfold doneW; split <;> rfl
  unfold doX
  simp only [show (8 * t + k + 1) / 8 = t by omega, show (8 * t + k + 1) % 8 = k + 1 by omega]
  rw [if_pos (by omega)]
  simp only [Nat.add_sub_cancel, hth]
theorem SOk.wait {n : Nat} {L : Nat → Nat} {X : Nat → Nat → Nat → Int} {m lk rg : Nat} {mode : Int} {s : Sx} (h : SOk n L m lk rg mode s) {t k : Nat} (ht : t < n) (hk : k < (thOf s t).wait.length) : SOk n L m lk rg mode (doX X mode s (8 * t + k + 1)) := by
  have hw := h.wlen t ht
  rw [doX_wait (by omega)]
  have h1 := h.done ((thOf s t).wait.getD k default)
  refine h1.th ht (h.pc t ht) (h.regs t ht) ?_ (fun y hy => h.wok t ht y (List.mem_of_mem_eraseIdx hy)) (fun h0 => ?_)
  · have := List.length_eraseIdx_le (thOf s t).wait k
    show ((thOf s t).wait.eraseIdx k).length ≤ 3
    omega
  · show (thOf s t).wait.eraseIdx k = []
    rw [h.bare h0 t ht]; rfl
theorem prints_wait {X : Nat → Nat → Nat → Int} {mode : Int} {s : Sx} {t k : Nat} (hk : k < 7) : (doX X mode s (8 * t + k + 1)).prints = s.prints := by
  rw [doX_wait hk]
  show (doneW s _).prints = _
  unfold doneW
  split <;> rfl
theorem fell_wait {X : Nat → Nat → Nat → Int} {mode : Int} {s : Sx} {t k : Nat} (hk : k < 7) : (doX X mode s (8 * t + k + 1)).fell = s.fell := by
  rw [doX_wait hk]
  show (doneW s _).fell = _
  unfold doneW
  split <;> rfl

attribute [local go_sem ↓] appS_eq
set_option maxRecDepth 100000 in
set_option maxHeartbeats 3200000 in
theorem do_wait (w : World) (B sb : Nat) (P : Pg) (v : Rl → Value) (s : Sx) (L : Nat → Nat) (X : Nat → Nat → Nat → Int) (m lk rg t k : Nat) (hs : DSt w B P sb v s) (ho : SOk P.n L m lk rg P.mode s) (hn4 : P.n ≤ 4) (hm64 : m ≤ 64) (hlk4 : lk ≤ 4) (ht : t < P.n) (hk : k < (thOf s t).wait.length) :
    Calls Tryd.prog 80 #[.pointer (some ⟨sb, 0, none⟩), .int .i64 (8 * (t : Int) + (k : Int) + 1)] w (DoQ B sb P v w (doX X P.mode s (8 * t + k + 1))) := by
  have hw3 := ho.wlen t ht
  have hthn := ho.ths
  have htl : t < s.ths.length := by omega
  rw [doX_wait (by omega)]
  obtain ⟨tb, tc, hth, htb, hltb⟩ := hs.thrB (by omega)
  obtain ⟨qb, qc, hqv, hqb, hlqb⟩ := hs.waitB (t := t) (by omega)
  have c5 := hs.c5
  rw [hth, hthn] at c5
  have cq := hs.wait htb htl
  rw [hqv] at cq
  have hwin := hs.win hqv
  obtain ⟨b', o', e', x0, x1, x2⟩ := hwin k hk
  simp only [Option.some.injEq, Addr.mk.injEq, and_true] at e'
  obtain ⟨rfl, rfl⟩ := e'
  simp only [Nat.zero_add] at x0 x1 x2
  have hok := (ho.wok t ht ((thOf s t).wait.getD k default) (by simp [List.getD, hk])).1
  obtain ⟨y, hy⟩ : ∃ y, (thOf s t).wait.getD k default = y := ⟨_, rfl⟩
  rw [hy] at x0 x1 x2 hok ⊢
  have hthd : thOf (doneW s y) t = thOf s t := by unfold doneW; split <;> rfl
  have hlen : (doneW s y).ths.length = s.ths.length := by unfold doneW; split <;> rfl
  obtain ⟨nw, hnw⟩ : ∃ n, (thOf s t).wait.length = n := ⟨_, rfl⟩
  have HDN : Hid (∀ W, W.heap = w.heap → W.os = w.os → W.tape = w.tape → W.output = w.output → Calls Tryd.prog 96 #[.pointer (some ⟨sb, 0, none⟩), .agg #[.bool y.lk, .int .i64 y.wh, .int .i64 y.what]] W fun e w1 => e = .returned (.tuple #[]) ∧
      (w1.cell? ⟨sb, 5, none⟩ = some (.slice (some ⟨tb, 0, none⟩) P.n tc) ∧ w1.cell? ⟨tb, t * 3 + 2, none⟩ = some (.slice (some ⟨qb, 0, none⟩) nw qc) ∧ w1.frozen? ⟨tb, t * 3 + 2, none⟩ = false) ∧
      ∃ vs, ∀ W2, W2.heap = w1.heap → W2.os = w1.os → W2.tape = w1.tape → W2.output = w1.output → (W2.setCells qb (k * 3) vs).cell? ⟨tb, t * 3 + 2, none⟩ = some (.slice (some ⟨qb, 0, none⟩) nw qc) ∧ (W2.setCells qb (k * 3) vs).frozen? ⟨tb, t * 3 + 2, none⟩ = false ∧
        (∀ a2 c2, (0 < nw - (k + 1) → a2 = ⟨qb, (k + 1) * 3, none⟩) → (AppS #[157, 157] 157 #[.slice (some ⟨qb, 0, none⟩) k qc, .slice (some a2) (nw - (k + 1)) c2]).run Tryd.prog W2 = .ok (.slice (some ⟨qb, 0, none⟩) (nw - 1) qc) (W2.setCells qb (k * 3) vs)) ∧
        DoQ B sb P v w (setTh (doneW s y) t { thOf s t with wait := (thOf s t).wait.eraseIdx k }) (.returned (.tuple #[])) ((W2.setCells qb (k * 3) vs).setCell ⟨tb, t * 3 + 2, none⟩ (.slice (some ⟨qb, 0, none⟩) (nw - 1) qc))) := fun W e e1 e2 e3 => by
    refine (done_any W B sb P v s y (hs.same e) hok.1 (by rw [ho.words, ho.own]; exact hok.2) (by rw [ho.words]; exact hm64) (by rw [ho.own]; exact hlk4)).mono fun en w1 ⟨h1, h2, h3⟩ => ⟨h1, ⟨?_, ?_, h2.fam.frozen htb _⟩, (waitV (thOf s t).wait).drop ((k + 1) * 3), fun W2 g g1 g2 g3 => ?_⟩
    · have := h2.c5
      rwa [hth, hthn] at this
    · have := h2.wait htb (by rw [hlen]; exact htl)
      rwa [hqv, hnw] at this
    · have hD := h2.same g
      have hMv : Moved w W2 v v := Moved.same ((Moved.same (Moved.refl w v) e e1 e2 e3).trans h3) g g1 g2 g3
      have hown : W2.ownsRow B 168 3 (v (.wait t)) (thOf s t).wait.length (Go.Proofs.YtocfocjnnjdcgaaDoor.waitV (thOf s t).wait) := by
        have := hD.fam.own (.wait t)
        change W2.ownsRow B 168 3 (v (.wait t)) (thOf (doneW s y) t).wait.length (Go.Proofs.YtocfocjnnjdcgaaDoor.waitV (thOf (doneW s y) t).wait) at this
        rwa [hthd] at this
      have hputs := fam_puts hqb ((Go.Proofs.YtocfocjnnjdcgaaDoor.waitV (thOf s t).wait).drop ((k + 1) * 3)) (k * 3) W2 _ hown
      have hgr := grown_puts qb ((Go.Proofs.YtocfocjnnjdcgaaDoor.waitV (thOf s t).wait).drop ((k + 1) * 3)) (k * 3) W2
      have hwl : (Go.Proofs.YtocfocjnnjdcgaaDoor.waitV (thOf s t).wait).length = (thOf s t).wait.length * 3 := waitV_len _
      have hcut := waitV_cut hw3 hk
      have hel : ((thOf s t).wait.eraseIdx k).length = nw - 1 := by rw [List.length_eraseIdx, if_pos hk, hnw]
      rw [hqv] at hputs
      have hsh := fam_shrink hputs (m := (thOf s t).wait.length - 1) (by omega)
      rw [hcut, hnw, ← hel] at hsh
      have hDD := hD.newWait htb (by rw [hlen]; exact htl) (H := W2.heap.size) hsh (by rw [hqb]; exact hgr) (Or.inl hqb) (Nat.le_refl _)
      have hMM := (hMv.grow (r := .wait t) (g := qb) (m := ((thOf s t).wait.eraseIdx k).length) (c := qc) (H := W2.heap.size) (by rw [hqb]; exact hgr) (Or.inl hqb) (Nat.le_refl _)).put (r := .thr) (g := tb) (by rw [upd_ne _ _ (by simp)]; exact htb) (t * 3 + 2) (.slice (some ⟨qb, 0, none⟩) (nw - 1) qc)
      have hne : tb ≠ qb := hs.fam.ne htb hqb (by simp)
      have hltb2 : tb < W2.heap.size := hD.fam.lt htb
      have hblk := hgr.block tb hltb2 (fun e => hne (by simpa using e))
      rw [hthd, hel] at hDD
      rw [hel] at hMM
      refine ⟨(World.cell?_of_block hblk).trans ?_, (World.frozen?_of_block hblk).trans (hD.fam.frozen htb _), fun a2 c2 ha2 => ?_, ⟨rfl, _, hDD, hMM⟩⟩
      · have := hD.wait htb (by rw [hlen]; exact htl)
        rwa [hqv, hnw] at this
      · obtain ⟨i, hi, hz0, hz1, hz2⟩ := info_is infoWait
        have hnl : ((Go.Proofs.YtocfocjnnjdcgaaDoor.waitV (thOf s t).wait).drop ((k + 1) * 3)).length = (nw - (k + 1)) * 3 := by rw [List.length_drop, hwl, hnw]; omega
        have hcell : ∀ j, j < nw * 3 → ∃ u, (Go.Proofs.YtocfocjnnjdcgaaDoor.waitV (thOf s t).wait)[j]? = some u ∧ W2.cell? ⟨qb, j, none⟩ = some u := fun j hj => by
          have hj' : j < (Go.Proofs.YtocfocjnnjdcgaaDoor.waitV (thOf s t).wait).length := by rw [hwl, hnw]; exact hj
          exact ⟨_, List.getElem?_eq_getElem hj', fam_cell hown hqb (List.getElem?_eq_getElem hj')⟩
        have hone : ∀ u ∈ (Go.Proofs.YtocfocjnnjdcgaaDoor.waitV (thOf s t).wait).drop ((k + 1) * 3), u.oneCell' = true := fun u hu => by
          have := List.mem_of_mem_drop hu
          unfold Go.Proofs.YtocfocjnnjdcgaaDoor.waitV rows3 at this
          rw [List.mem_map] at this
          obtain ⟨j, _, rfl⟩ := this
          exact waitC_one _ _
        have hsrc : Src Tryd.prog i.size 157 (.slice (some a2) (nw - (k + 1)) c2) (nw - (k + 1)) ((Go.Proofs.YtocfocjnnjdcgaaDoor.waitV (thOf s t).wait).drop ((k + 1) * 3)) W2 := by
          rw [hz1]
          refine Src.ofSlice W2 Tryd.underlying157 a2 _ c2 _ hnl (fun j u hu => ?_) hone
          rw [List.getElem?_drop] at hu
          have hj : j < (nw - (k + 1)) * 3 := by
            rcases Nat.lt_or_ge j ((nw - (k + 1)) * 3) with h | h
            · exact h
            · rw [List.getElem?_eq_none (by rw [hwl, hnw]; omega)] at hu; cases hu
          have hadd : (⟨qb, (k + 1) * 3, none⟩ : Addr).add j = ⟨qb, (k + 1) * 3 + j, none⟩ := by unfold Addr.add; split <;> simp_all
          rw [ha2 (by omega), hadd]
          obtain ⟨u', g1, g2⟩ := hcell ((k + 1) * 3 + j) (by omega)
          rw [hu] at g1
          rw [g2, g1]
        have := run_append_room_src W2 157 157 157 168 i Tryd.underlying157 hi qb 0 k qc (.slice (some a2) (nw - (k + 1)) c2) (nw - (k + 1)) _ hsrc (by
          have := hown.2
          rw [hqv] at this
          rcases this with ⟨h0, _⟩ | ⟨g', cap', cur, hv', _, _, h5, _⟩
          · simp at h0
          · simp only [Value.slice.injEq, Option.some.injEq, Addr.mk.injEq, and_true] at hv'
            rw [hv'.2.2]; omega) (fun j hj => by
          rw [hnl] at hj
          obtain ⟨u', _, g2⟩ := hcell (0 + k * i.size + j) (by rw [hz1]; omega)
          rw [g2]; rfl) (fun j hj => fam_frozen hown hqb _)
        rw [hz1, Nat.zero_add, show k + (nw - (k + 1)) = nw - 1 by omega] at this
        exact this
  have hkk : (8 * (t : Int) + (k : Int) + 1) / 8 = (t : Int) := by omega
  have hkr : (8 * (t : Int) + (k : Int) + 1) % 8 = (k : Int) + 1 := by omega
  have hqc : nw ≤ qc := by
    have := (hs.fam.own (.wait t)).2
    rw [hqv] at this
    rcases this with ⟨h0, _⟩ | ⟨g', cap', cur, hv', _, _, h5, _⟩
    · simp at h0
    · simp only [Value.slice.injEq, Option.some.injEq, Addr.mk.injEq, and_true] at hv'
      rw [hv'.2.2, ← hnw]; exact h5
  obtain ⟨mv, hmv⟩ : ∃ x, 8 * (t : Int) + (k : Int) + 1 = x := ⟨_, rfl⟩
  have hmv0 : 0 ≤ mv := by omega
  have hmv1 : mv ≤ 1000 := by omega
  obtain ⟨lk', hlk'⟩ : ∃ x, y.lk = x := ⟨_, rfl⟩
  obtain ⟨wh', hwh'⟩ : ∃ x, y.wh = x := ⟨_, rfl⟩
  obtain ⟨wt', hwt'⟩ : ∃ x, y.what = x := ⟨_, rfl⟩
  rw [hmv] at hkk hkr ⊢
  rw [hlk'] at x0
  rw [hwh'] at x1
  rw [hwt'] at x2
  rw [hlk', hwh', hwt'] at HDN
  obtain ⟨n, hnn⟩ : ∃ n, P.n = n := ⟨_, rfl⟩
  rw [hnn] at c5 ht hn4 HDN
  rw [hnw] at cq hk hw3
  clear hs ho hth htb hqv hqb hwin hok hy hthd hlen hnw hmv hlk' hwh' hwt' hnn hthn htl
  go_enter Tryd.func80, Tryd.ntmps80
  go_wp2_with fail
  refine Calls.mono (HDN.out _ rfl rfl rfl rfl) ?_
  rintro e w1 ⟨rfl, ⟨d5, dq, df⟩, vs, HV⟩
  have HVV := Hid.out (p := Hid _) HV
  obtain ⟨hA, hB, hrun, hQ⟩ := HVV.out w1.drew rfl rfl rfl rfl
  have hr1 : (AppS #[157, 157] 157 #[.slice (some ⟨qb, 0, none⟩) k qc, .slice (if qc = k + 1 then some ⟨qb, 0, none⟩ else some ⟨qb, (k + 1) * 3, none⟩) (nw - (k + 1)) (qc - (k + 1))]).run Tryd.prog w1.drew = .ok (.slice (some ⟨qb, 0, none⟩) (nw - 1) qc) (w1.drew.setCells qb (k * 3) vs) := by
    split
    · exact hrun ⟨qb, 0, none⟩ _ (fun h => by omega)
    · exact hrun ⟨qb, (k + 1) * 3, none⟩ _ (fun _ => rfl)
  have HQ := Hid.out (p := Hid _) hQ
  clear HV HDN hQ hrun
  go_wp2
  go_region
  all_goals go_wp2
  all_goals go_end0
  all_goals refine ⟨rfl, ?_⟩
  all_goals first | exact HQ.out.2 | (have hq2 := HQ.out.2; simp only [‹qc = k + 1›] at hq2; exact hq2)

/-- What can be picked can be done, whichever the mode. -/
theorem doOk_any {P : Pg} (hm : 0 ≤ P.mode) {A : Nat → Option Addr} {L C : Nat → Nat} {X : Nat → Nat → Nat → Int} {m lk rg : Nat} (hc : COk P.n L X m lk rg) : DoOk P A L C X m lk rg := by
  intro w B sb v s mv hs hB ho hp hpr hmv
  rcases movesX_mem hmv with ⟨t, ht, rfl, ha⟩ | ⟨t, k, ht, hk, rfl, _⟩
  · have ht' : t < P.n := by rw [← ho.ths]; exact ht
    have hx : Cx w B sb P v s A L C X m lk rg t := ⟨ht', hs, hB, ho, hc, hp, able_lt ha, hpr, hm⟩
    have e : (8 * (t : Int)).toNat = 8 * t := by omega
    rw [e]
    exact ⟨do_order w B sb P v s A L C X m lk rg t hx, ho.step hc hm ht' ha, prints_step⟩
  · have ht' : t < P.n := by rw [← ho.ths]; exact ht
    have hw := ho.wlen t ht'
    have e : (8 * (t : Int) + (k : Int) + 1).toNat = 8 * t + k + 1 := by omega
    rw [e]
    exact ⟨do_wait w B sb P v s L X m lk rg t k hs ho hc.n4 hc.m64 hc.lk4 ht' hk, ho.wait ht' hk, by rw [prints_wait (by omega)]; omega⟩
end

end Go.Proofs.YtocfocjnnjdcgaaDoor
