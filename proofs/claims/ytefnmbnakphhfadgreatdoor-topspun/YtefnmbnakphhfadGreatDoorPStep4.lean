/-
  Steps of the program's run.
  Steps of the program's run.
  A step of the program's run, whichever order it is; what is picked is done; which number of the script is taken.
-/
import Derived.Test.YtefnmbnakphhfadGreatDoorPStepP
import Derived.Test.YtefnmbnakphhfadGreatDoorPPicks
import Derived.Test.YtefnmbnakphhfadGreatDoorPStep1
import Derived.Test.YtefnmbnakphhfadGreatDoorPStep3
import Derived.Test.YtefnmbnakphhfadGreatDoorRLk
namespace Go.Proofs.YtefnmbnakphhfadGreatDoor
section
open Go.RowKit

set_option maxRecDepth 100000 in
set_option maxHeartbeats 3200000 in
theorem step_14 (w : World) (B : Nat) (Q : Cd) (sb mb : Nat) (v : Rp → Value) (s : Sx) (ca : Option Addr) (X : Nat → Nat → Nat → Int) (n m lk rg t : Nat) (hx : Cy w B Q sb mb v s ca X n m lk rg t) (hop : opT X s t 0 = 14) :
    Calls Tryz.prog 98 #[.pointer (some ⟨sb, 0, none⟩), .int .i64 t] w (StepQ B Q sb mb v w (orderX Q.K.mode (stepS s t) t 14 (opT X s t 1) (opT X s t 2) (opT X s t 3))) := by
  obtain ⟨tb, tc, rb, rc, pc, ob, oo, ⟨htn, hn4, hpcl, hL4⟩, hpre⟩ := hx.pre
  have htl : t < s.ths.length := by have := hx.ho.ths; have := hx.ht; omega
  have hrl : (thOf s t).regs.length = rg := hx.ho.regs t hx.ht
  have hord := hx.hc.ord t (thOf s t).pc hx.ht hx.hlt
  have hrg2 := hx.hc.rg2
  have hwl : s.words.length = m := hx.ho.words
  have hol : s.own.length = lk := hx.ho.own
  have hm64 := hx.hc.m64
  have hlk4 := hx.hc.lk4
  have hM := hx.hM
  have hf := hx.hf
  have hthn := hx.ho.ths
  have hsl : (stepS s t).ths.length = s.ths.length := stepS_len s t
  have hsr : (thOf (stepS s t) t).regs.length = rg := by rw [stepS_regs htl]; exact hrl
  have HMPX : Hid (∀ W : World, QSt W B Q sb mb v (stepS s t) → w.heap.size ≤ W.heap.size → MPre W B Q sb mb v (stepS s t) t) := fun W hq hW => hx.mpre hq hW
  have hsf : (stepS s t).fell = false := hf
  change ordE rg m lk (Q.L t) (opT X s t 0) (opT X s t 1) (opT X s t 2) (opT X s t 3) = 0 at hord
  have d1 := hpre.c1
  have dc := hpre.cc
  have dp := hpre.cp
  have df := hpre.cf
  have dr := hpre.cr
  have y0 := hpre.y0
  have y1 := hpre.y1
  have y2 := hpre.y2
  have y3 := hpre.y3
  have nrt := hpre.nrt
  have ntr := hpre.ntr
  have nst := hpre.nst
  have nts := hpre.nts
  have lsb := hpre.lsb
  have lrb := hpre.lrb
  have ltb := hpre.ltb
  have lob := hpre.lob
  rw [hop] at hord y0
  obtain ⟨a, ea⟩ : ∃ x, opT X s t 1 = x := ⟨_, rfl⟩
  obtain ⟨b, eb⟩ : ∃ x, opT X s t 2 = x := ⟨_, rfl⟩
  obtain ⟨c, ec⟩ : ∃ x, opT X s t 3 = x := ⟨_, rfl⟩
  rw [ea, eb, ec] at hord ⊢
  rw [ea] at y1
  rw [eb] at y2
  rw [ec] at y3
  clear ea eb ec
  obtain ⟨ia, rfl, ha⟩ := toN_le (ok_jump hord)
  obtain ⟨LT, hLT⟩ : ∃ x, Q.L t = x := ⟨_, rfl⟩
  rw [hLT] at dc hpcl hL4
  have HP := Hid.out (p := Hid _) hpre
  have HX := Hid.out (p := Hid _) hx
  have HD : Hid (∀ W, W.heap = ((w.setCell ⟨tb, t * 3 + 1, none⟩ (.int .i64 ((pc : Int) + 1))).alloc (.cells #[.int .i64 14, .int .i64 (ia : Int), .int .i64 b, .int .i64 c] 37)).heap → QSt W B Q sb mb v (stepS s t)) := fun W e => (hpre.D.alloc _).same e
  have HM : Hid (∀ W, W.heap = ((w.setCell ⟨tb, t * 3 + 1, none⟩ (.int .i64 ((pc : Int) + 1))).alloc (.cells #[.int .i64 14, .int .i64 (ia : Int), .int .i64 b, .int .i64 c] 37)).heap → W.os = w.os → W.tape = w.tape → W.output = w.output → Moved w W v v) := fun W e e1 e2 e3 => Moved.same (hpre.M.alloc _) e e1 e2 e3
  have HST : Hid (orderX Q.K.mode (stepS s t) t 14 (ia : Int) b c = setTh s t { thOf s t with pc := ia }) := stepS_jump htl ia
  have HF : Hid (QSt (w.setCell ⟨tb, t * 3 + 1, none⟩ (.int .i64 (ia : Int))) B Q sb mb v (setTh s t { thOf s t with pc := ia }) ∧ Moved w (w.setCell ⟨tb, t * 3 + 1, none⟩ (.int .i64 (ia : Int))) v v) := ⟨hx.hs.setPc hpre.btb htl ia, (Moved.refl w v).put hpre.btb _ _⟩
  have HG : Hid (QSt ((w.setCell ⟨tb, t * 3 + 1, none⟩ (.int .i64 ((pc : Int) + 1))).setCell ⟨tb, t * 3 + 1, none⟩ (.int .i64 (ia : Int))) B Q sb mb v (setTh s t { thOf s t with pc := ia }) ∧ Moved w ((w.setCell ⟨tb, t * 3 + 1, none⟩ (.int .i64 ((pc : Int) + 1))).setCell ⟨tb, t * 3 + 1, none⟩ (.int .i64 (ia : Int))) v v) := ⟨by have := hpre.D.setPc hpre.btb (by rw [hsl]; exact htl) ia; rwa [stepS_jump htl] at this, hpre.M.put hpre.btb _ _⟩
  clear hord
  clear hx hpre hop hLT
  go_enter Tryz.func98, Tryz.ntmps98
  go_wp2
  go_region
  all_goals go_wp2
  all_goals go_ret
  all_goals refine ⟨?_, v, ?_⟩
  all_goals rw [HST.out]
  all_goals first | (show _ = Ending.returned (.bool (!s.fell)); rw [hf]; rfl) | exact ⟨QSt.same (HF.out.1.alloc _) rfl, Moved.same (HF.out.2.alloc _) rfl rfl rfl rfl⟩ | exact ⟨QSt.same (HG.out.1.alloc _) rfl, Moved.same (HG.out.2.alloc _) rfl rfl rfl rfl⟩

set_option maxRecDepth 100000 in
set_option maxHeartbeats 3200000 in
theorem step_17 (w : World) (B : Nat) (Q : Cd) (sb mb : Nat) (v : Rp → Value) (s : Sx) (ca : Option Addr) (X : Nat → Nat → Nat → Int) (n m lk rg t : Nat) (hx : Cy w B Q sb mb v s ca X n m lk rg t) (hop : opT X s t 0 = 17) :
    Calls Tryz.prog 98 #[.pointer (some ⟨sb, 0, none⟩), .int .i64 t] w (StepQ B Q sb mb v w (orderX Q.K.mode (stepS s t) t 17 (opT X s t 1) (opT X s t 2) (opT X s t 3))) := by
  obtain ⟨tb, tc, rb, rc, pc, ob, oo, ⟨htn, hn4, hpcl, hL4⟩, hpre⟩ := hx.pre
  have htl : t < s.ths.length := by have := hx.ho.ths; have := hx.ht; omega
  have hrl : (thOf s t).regs.length = rg := hx.ho.regs t hx.ht
  have hord := hx.hc.ord t (thOf s t).pc hx.ht hx.hlt
  have hrg2 := hx.hc.rg2
  have hwl : s.words.length = m := hx.ho.words
  have hol : s.own.length = lk := hx.ho.own
  have hm64 := hx.hc.m64
  have hlk4 := hx.hc.lk4
  have hM := hx.hM
  have hf := hx.hf
  have hthn := hx.ho.ths
  have hsl : (stepS s t).ths.length = s.ths.length := stepS_len s t
  have hsr : (thOf (stepS s t) t).regs.length = rg := by rw [stepS_regs htl]; exact hrl
  have HMPX : Hid (∀ W : World, QSt W B Q sb mb v (stepS s t) → w.heap.size ≤ W.heap.size → MPre W B Q sb mb v (stepS s t) t) := fun W hq hW => hx.mpre hq hW
  have hsf : (stepS s t).fell = false := hf
  change ordE rg m lk (Q.L t) (opT X s t 0) (opT X s t 1) (opT X s t 2) (opT X s t 3) = 0 at hord
  have d1 := hpre.c1
  have dc := hpre.cc
  have dp := hpre.cp
  have df := hpre.cf
  have dr := hpre.cr
  have y0 := hpre.y0
  have y1 := hpre.y1
  have y2 := hpre.y2
  have y3 := hpre.y3
  have nrt := hpre.nrt
  have ntr := hpre.ntr
  have nst := hpre.nst
  have nts := hpre.nts
  have lsb := hpre.lsb
  have lrb := hpre.lrb
  have ltb := hpre.ltb
  have lob := hpre.lob
  rw [hop] at hord y0
  obtain ⟨a, ea⟩ : ∃ x, opT X s t 1 = x := ⟨_, rfl⟩
  obtain ⟨b, eb⟩ : ∃ x, opT X s t 2 = x := ⟨_, rfl⟩
  obtain ⟨c, ec⟩ : ∃ x, opT X s t 3 = x := ⟨_, rfl⟩
  rw [ea, eb, ec] at hord ⊢
  rw [ea] at y1
  rw [eb] at y2
  rw [ec] at y3
  clear ea eb ec
  obtain ⟨ia, rfl, ha⟩ := toN (ok_lock (Or.inl rfl) hord)
  obtain ⟨LT, hLT⟩ : ∃ x, Q.L t = x := ⟨_, rfl⟩
  rw [hLT] at dc hpcl hL4
  have HP := Hid.out (p := Hid _) hpre
  have HX := Hid.out (p := Hid _) hx
  have HD : Hid (∀ W, W.heap = ((w.setCell ⟨tb, t * 3 + 1, none⟩ (.int .i64 ((pc : Int) + 1))).alloc (.cells #[.int .i64 17, .int .i64 (ia : Int), .int .i64 b, .int .i64 c] 37)).heap → QSt W B Q sb mb v (stepS s t)) := fun W e => (hpre.D.alloc _).same e
  have HM : Hid (∀ W, W.heap = ((w.setCell ⟨tb, t * 3 + 1, none⟩ (.int .i64 ((pc : Int) + 1))).alloc (.cells #[.int .i64 17, .int .i64 (ia : Int), .int .i64 b, .int .i64 c] 37)).heap → W.os = w.os → W.tape = w.tape → W.output = w.output → Moved w W v v) := fun W e e1 e2 e3 => Moved.same (hpre.M.alloc _) e e1 e2 e3
  have HST : Hid (orderX Q.K.mode (stepS s t) t 17 (ia : Int) b c = { stepS s t with own := (stepS s t).own.set ia (t : Int) }) := rfl
  have c0 := hpre.D.c0
  have c0' := (World.cell?_of_block (w := w) (a := ⟨sb, 0, none⟩) (Below.heap_setCell _ _ _ _ nst)).symm.trans c0
  have mLk1 := hM.mLock ((w.setCell ⟨tb, t * 3 + 1, none⟩ (.int .i64 ((pc : Int) + 1))).alloc (.cells #[.int .i64 17, .int .i64 (ia : Int), .int .i64 b, .int .i64 c] 37)).drew B Q sb mb v (stepS s t) rfl (HD.out _ rfl)
  have mLk2 := hM.mLock ((w.setCell ⟨tb, t * 3 + 1, none⟩ (.int .i64 ((pc : Int) + 1))).alloc (.cells #[.int .i64 17, .int .i64 (ia : Int), .int .i64 b, .int .i64 c] 37)).drew.drew B Q sb mb v (stepS s t) rfl (HD.out _ rfl)
  have HC : Hid (∀ W, W.heap = ((w.setCell ⟨tb, t * 3 + 1, none⟩ (.int .i64 ((pc : Int) + 1))).alloc (.cells #[.int .i64 17, .int .i64 (ia : Int), .int .i64 b, .int .i64 c] 37)).heap → Calls Tryz.prog 140 #[.pointer (some ⟨mb, 0, none⟩), .int .i64 t, .int .i64 (ia : Int)] W fun e w' => e = .returned (.tuple #[]) ∧ QSt w' B Q sb mb v { stepS s t with own := (stepS s t).own.set ia (t : Int) } ∧ Moved W w' v v) := fun W e => plock_any W B Q sb mb v (stepS s t) t ia (HD.out W e) (by show s.own.length ≤ 4; omega) (by show ia < s.own.length; omega)
  clear hord c0
  clear hx hpre hop hLT
  go_enter Tryz.func98, Tryz.ntmps98
  go_wp2
  go_region
  all_goals go_wp2
  all_goals (refine region_tail 7 (by kernel_rfl) (by kernel_rfl) ?_)
  all_goals simp only [List.take_succ_cons, List.take_zero, List.drop_succ_cons, List.drop_zero]
  all_goals repeat still_step
  all_goals refine wpStill_nil ?_
  all_goals go_wp2_with fail
  all_goals refine Calls.mono (HC.out _ rfl) ?_
  all_goals rintro e w1 ⟨rfl, hq1, hm1⟩
  all_goals go_wp2_with fail
  all_goals go_ret
  all_goals refine ⟨?_, v, ?_, (HM.out _ (by rfl) (by rfl) (by rfl) (by rfl)).trans hm1⟩
  all_goals rw [HST.out]
  all_goals first | exact hq1 | (show _ = Ending.returned (.bool (!s.fell)); rw [hf]; rfl)

set_option maxRecDepth 100000 in
set_option maxHeartbeats 3200000 in
theorem step_18 (w : World) (B : Nat) (Q : Cd) (sb mb : Nat) (v : Rp → Value) (s : Sx) (ca : Option Addr) (X : Nat → Nat → Nat → Int) (n m lk rg t : Nat) (hx : Cy w B Q sb mb v s ca X n m lk rg t) (hop : opT X s t 0 = 18) :
    Calls Tryz.prog 98 #[.pointer (some ⟨sb, 0, none⟩), .int .i64 t] w (StepQ B Q sb mb v w (orderX Q.K.mode (stepS s t) t 18 (opT X s t 1) (opT X s t 2) (opT X s t 3))) := by
  obtain ⟨tb, tc, rb, rc, pc, ob, oo, ⟨htn, hn4, hpcl, hL4⟩, hpre⟩ := hx.pre
  have htl : t < s.ths.length := by have := hx.ho.ths; have := hx.ht; omega
  have hrl : (thOf s t).regs.length = rg := hx.ho.regs t hx.ht
  have hord := hx.hc.ord t (thOf s t).pc hx.ht hx.hlt
  have hrg2 := hx.hc.rg2
  have hwl : s.words.length = m := hx.ho.words
  have hol : s.own.length = lk := hx.ho.own
  have hm64 := hx.hc.m64
  have hlk4 := hx.hc.lk4
  have hM := hx.hM
  have hf := hx.hf
  have hthn := hx.ho.ths
  have hsl : (stepS s t).ths.length = s.ths.length := stepS_len s t
  have hsr : (thOf (stepS s t) t).regs.length = rg := by rw [stepS_regs htl]; exact hrl
  have HMPX : Hid (∀ W : World, QSt W B Q sb mb v (stepS s t) → w.heap.size ≤ W.heap.size → MPre W B Q sb mb v (stepS s t) t) := fun W hq hW => hx.mpre hq hW
  have hsf : (stepS s t).fell = false := hf
  change ordE rg m lk (Q.L t) (opT X s t 0) (opT X s t 1) (opT X s t 2) (opT X s t 3) = 0 at hord
  have d1 := hpre.c1
  have dc := hpre.cc
  have dp := hpre.cp
  have df := hpre.cf
  have dr := hpre.cr
  have y0 := hpre.y0
  have y1 := hpre.y1
  have y2 := hpre.y2
  have y3 := hpre.y3
  have nrt := hpre.nrt
  have ntr := hpre.ntr
  have nst := hpre.nst
  have nts := hpre.nts
  have lsb := hpre.lsb
  have lrb := hpre.lrb
  have ltb := hpre.ltb
  have lob := hpre.lob
  rw [hop] at hord y0
  obtain ⟨a, ea⟩ : ∃ x, opT X s t 1 = x := ⟨_, rfl⟩
  obtain ⟨b, eb⟩ : ∃ x, opT X s t 2 = x := ⟨_, rfl⟩
  obtain ⟨c, ec⟩ : ∃ x, opT X s t 3 = x := ⟨_, rfl⟩
  rw [ea, eb, ec] at hord ⊢
  rw [ea] at y1
  rw [eb] at y2
  rw [ec] at y3
  clear ea eb ec
  obtain ⟨ia, rfl, ha⟩ := toN (ok_lock (Or.inr rfl) hord)
  obtain ⟨LT, hLT⟩ : ∃ x, Q.L t = x := ⟨_, rfl⟩
  rw [hLT] at dc hpcl hL4
  have HP := Hid.out (p := Hid _) hpre
  have HX := Hid.out (p := Hid _) hx
  have HD : Hid (∀ W, W.heap = ((w.setCell ⟨tb, t * 3 + 1, none⟩ (.int .i64 ((pc : Int) + 1))).alloc (.cells #[.int .i64 18, .int .i64 (ia : Int), .int .i64 b, .int .i64 c] 37)).heap → QSt W B Q sb mb v (stepS s t)) := fun W e => (hpre.D.alloc _).same e
  have HM : Hid (∀ W, W.heap = ((w.setCell ⟨tb, t * 3 + 1, none⟩ (.int .i64 ((pc : Int) + 1))).alloc (.cells #[.int .i64 18, .int .i64 (ia : Int), .int .i64 b, .int .i64 c] 37)).heap → W.os = w.os → W.tape = w.tape → W.output = w.output → Moved w W v v) := fun W e e1 e2 e3 => Moved.same (hpre.M.alloc _) e e1 e2 e3
  have c0 := hpre.D.c0
  have c0' := (World.cell?_of_block (w := w) (a := ⟨sb, 0, none⟩) (Below.heap_setCell _ _ _ _ nst)).symm.trans c0
  have mUn := hM.mUnlock
  have kmUn := hM.cUnlock
  have HRM : Hid ((thOf (stepS s t) t).wait.length < 3) := by show _ < _; rw [stepS_wait htl]; exact hx.room (by rw [hop]; decide)
  have HC : Hid (∀ W, W.heap = ((w.setCell ⟨tb, t * 3 + 1, none⟩ (.int .i64 ((pc : Int) + 1))).alloc (.cells #[.int .i64 18, .int .i64 (ia : Int), .int .i64 b, .int .i64 c] 37)).heap → Calls Tryz.prog Q.K.unlock #[.pointer (some ⟨Q.top mb, 0, none⟩), .int .i64 t, .int .i64 (ia : Int)] W (StepQ B Q sb mb v W (orderX Q.K.mode (stepS s t) t 18 (ia : Int) b c))) := fun W e => by
    have key : orderX Q.K.mode (stepS s t) t 18 (ia : Int) b c = (if (stepS s t).own.getD ia 0 ≠ (t : Int) ∨ ((thOf (stepS s t) t).wait.any fun x => x.lk && decide (x.wh = (ia : Int))) = true then fallX (stepS s t) else storeW Q.K.mode (stepS s t) t ⟨true, (ia : Int), 0⟩) := rfl
    by_cases hown : (stepS s t).own.getD ia 0 ≠ (t : Int) ∨ ((thOf (stepS s t) t).wait.any fun x => x.lk && decide (x.wh = (ia : Int))) = true
    · rw [if_pos hown] at key
      refine (hM.unlockN W B Q sb mb v (stepS s t) t ia rfl (HMPX.out W (HD.out W e) (by rw [e]; simp [World.setCell])) (by show ia < s.own.length; omega) hown).mono fun e w' h => ⟨?_, v, ?_, ?_⟩
      · rw [h.1, key]; rfl
      · rw [key]; exact ((HD.out W ‹_›).below h.2).fall
      · exact Moved.of_below h.2
    · rw [if_neg hown] at key
      have hown' : (stepS s t).own.getD ia 0 = (t : Int) ∧ ((thOf (stepS s t) t).wait.any fun x => x.lk && decide (x.wh = (ia : Int))) = false := by
        constructor
        · exact Classical.not_not.mp fun h => hown (Or.inl h)
        · exact Bool.eq_false_iff.mpr fun h => hown (Or.inr h)
      refine (hM.unlockY W B Q sb mb v (stepS s t) t ia rfl (HMPX.out W (HD.out W e) (by rw [e]; simp [World.setCell])) (by show ia < s.own.length; omega) HRM.out hown'.1 hown'.2).mono fun e w' h => ⟨?_, h.2.choose, ?_, ?_⟩
      · rw [h.1, key, fell_store, hsf]; rfl
      · rw [key]; exact h.2.choose_spec.1
      · exact h.2.choose_spec.2.1
  clear hord c0
  clear hx hpre hop hLT
  go_enter Tryz.func98, Tryz.ntmps98
  go_wp2
  go_region
  all_goals go_wp2
  all_goals (refine region_tail 7 (by kernel_rfl) (by kernel_rfl) ?_)
  all_goals simp only [List.take_succ_cons, List.take_zero, List.drop_succ_cons, List.drop_zero]
  all_goals repeat still_step
  all_goals refine wpStill_nil ?_
  all_goals go_wp2_with fail
  all_goals refine Calls.mono (HC.out _ rfl) ?_
  all_goals rintro e w1 ⟨rfl, v1, hq1, hm1⟩
  all_goals go_wp2_with fail
  all_goals go_ret
  all_goals exact ⟨rfl, v1, hq1, (HM.out _ (by rfl) (by rfl) (by rfl) (by rfl)).trans hm1⟩
end

section
open Go.RowKit

set_option maxRecDepth 100000 in
set_option maxHeartbeats 3200000 in
theorem step_15 (w : World) (B : Nat) (Q : Cd) (sb mb : Nat) (v : Rp → Value) (s : Sx) (ca : Option Addr) (X : Nat → Nat → Nat → Int) (n m lk rg t : Nat) (hx : Cy w B Q sb mb v s ca X n m lk rg t) (hop : opT X s t 0 = 15) :
    Calls Tryz.prog 98 #[.pointer (some ⟨sb, 0, none⟩), .int .i64 t] w (StepQ B Q sb mb v w (orderX Q.K.mode (stepS s t) t 15 (opT X s t 1) (opT X s t 2) (opT X s t 3))) := by
  obtain ⟨tb, tc, rb, rc, pc, ob, oo, ⟨htn, hn4, hpcl, hL4⟩, hpre⟩ := hx.pre
  have htl : t < s.ths.length := by have := hx.ho.ths; have := hx.ht; omega
  have hrl : (thOf s t).regs.length = rg := hx.ho.regs t hx.ht
  have hord := hx.hc.ord t (thOf s t).pc hx.ht hx.hlt
  have hrg2 := hx.hc.rg2
  have hwl : s.words.length = m := hx.ho.words
  have hol : s.own.length = lk := hx.ho.own
  have hm64 := hx.hc.m64
  have hlk4 := hx.hc.lk4
  have hM := hx.hM
  have hf := hx.hf
  have hthn := hx.ho.ths
  have hsl : (stepS s t).ths.length = s.ths.length := stepS_len s t
  have hsr : (thOf (stepS s t) t).regs.length = rg := by rw [stepS_regs htl]; exact hrl
  have HMPX : Hid (∀ W : World, QSt W B Q sb mb v (stepS s t) → w.heap.size ≤ W.heap.size → MPre W B Q sb mb v (stepS s t) t) := fun W hq hW => hx.mpre hq hW
  have hsf : (stepS s t).fell = false := hf
  change ordE rg m lk (Q.L t) (opT X s t 0) (opT X s t 1) (opT X s t 2) (opT X s t 3) = 0 at hord
  have d1 := hpre.c1
  have dc := hpre.cc
  have dp := hpre.cp
  have df := hpre.cf
  have dr := hpre.cr
  have y0 := hpre.y0
  have y1 := hpre.y1
  have y2 := hpre.y2
  have y3 := hpre.y3
  have nrt := hpre.nrt
  have ntr := hpre.ntr
  have nst := hpre.nst
  have nts := hpre.nts
  have lsb := hpre.lsb
  have lrb := hpre.lrb
  have ltb := hpre.ltb
  have lob := hpre.lob
  rw [hop] at hord y0
  obtain ⟨a, ea⟩ : ∃ x, opT X s t 1 = x := ⟨_, rfl⟩
  obtain ⟨b, eb⟩ : ∃ x, opT X s t 2 = x := ⟨_, rfl⟩
  obtain ⟨c, ec⟩ : ∃ x, opT X s t 3 = x := ⟨_, rfl⟩
  rw [ea, eb, ec] at hord ⊢
  rw [ea] at y1
  rw [eb] at y2
  rw [ec] at y3
  clear ea eb ec
  obtain ⟨⟨ia, rfl, ha⟩, ⟨ib, rfl, hb⟩⟩ := by
    have h3 := ok_zero hord
    exact (⟨toN h3.1, toN_le h3.2⟩ : _ ∧ _)
  obtain ⟨LT, hLT⟩ : ∃ x, Q.L t = x := ⟨_, rfl⟩
  rw [hLT] at dc hpcl hL4
  have HP := Hid.out (p := Hid _) hpre
  have HX := Hid.out (p := Hid _) hx
  have HD : Hid (∀ W, W.heap = ((w.setCell ⟨tb, t * 3 + 1, none⟩ (.int .i64 ((pc : Int) + 1))).alloc (.cells #[.int .i64 15, .int .i64 (ia : Int), .int .i64 (ib : Int), .int .i64 c] 37)).heap → QSt W B Q sb mb v (stepS s t)) := fun W e => (hpre.D.alloc _).same e
  have HM : Hid (∀ W, W.heap = ((w.setCell ⟨tb, t * 3 + 1, none⟩ (.int .i64 ((pc : Int) + 1))).alloc (.cells #[.int .i64 15, .int .i64 (ia : Int), .int .i64 (ib : Int), .int .i64 c] 37)).heap → W.os = w.os → W.tape = w.tape → W.output = w.output → Moved w W v v) := fun W e e1 e2 e3 => Moved.same (hpre.M.alloc _) e e1 e2 e3
  have wa := hpre.reg htl (r := ia) (by omega)
  obtain ⟨VA, eA⟩ : ∃ x, getR s t (ia : Int) = x := ⟨_, rfl⟩
  have HVA : Hid (getR s t (ia : Int) = VA) := eA
  rw [eA] at wa
  clear eA
  by_cases hz : VA = 0
  · subst hz
    have HST : Hid (orderX Q.K.mode (stepS s t) t 15 (ia : Int) (ib : Int) c = setTh s t { thOf s t with pc := ib }) := by
      show (if getR (stepS s t) t (ia : Int) = 0 then setTh (stepS s t) t { thOf (stepS s t) t with pc := ib } else _) = _
      rw [stepS_getR htl, HVA.out, if_pos rfl]
      exact stepS_jump htl ib
    have HF : Hid (QSt (w.setCell ⟨tb, t * 3 + 1, none⟩ (.int .i64 (ib : Int))) B Q sb mb v (setTh s t { thOf s t with pc := ib }) ∧ Moved w (w.setCell ⟨tb, t * 3 + 1, none⟩ (.int .i64 (ib : Int))) v v) := ⟨hx.hs.setPc hpre.btb htl ib, (Moved.refl w v).put hpre.btb _ _⟩
    have HG : Hid (QSt ((w.setCell ⟨tb, t * 3 + 1, none⟩ (.int .i64 ((pc : Int) + 1))).setCell ⟨tb, t * 3 + 1, none⟩ (.int .i64 (ib : Int))) B Q sb mb v (setTh s t { thOf s t with pc := ib }) ∧ Moved w ((w.setCell ⟨tb, t * 3 + 1, none⟩ (.int .i64 ((pc : Int) + 1))).setCell ⟨tb, t * 3 + 1, none⟩ (.int .i64 (ib : Int))) v v) := ⟨by have := hpre.D.setPc hpre.btb (by rw [hsl]; exact htl) ib; rwa [stepS_jump htl] at this, hpre.M.put hpre.btb _ _⟩
    have HH : Hid (∀ o, QSt (((w.setCell ⟨tb, t * 3 + 1, none⟩ (.int .i64 ((pc : Int) + 1))).alloc o).setCell ⟨tb, t * 3 + 1, none⟩ (.int .i64 (ib : Int))) B Q sb mb v (setTh s t { thOf s t with pc := ib }) ∧ Moved w (((w.setCell ⟨tb, t * 3 + 1, none⟩ (.int .i64 ((pc : Int) + 1))).alloc o).setCell ⟨tb, t * 3 + 1, none⟩ (.int .i64 (ib : Int))) v v) := fun o => ⟨by have := (hpre.D.alloc o).setPc hpre.btb (by rw [hsl]; exact htl) ib; rwa [stepS_jump htl] at this, (hpre.M.alloc o).put hpre.btb _ _⟩
    clear hord
    clear hx hpre hop hLT
    go_enter Tryz.func98, Tryz.ntmps98
    go_wp2
    go_region
    all_goals go_wp2
    all_goals go_quiet (fail)
    all_goals go_wp2
    all_goals go_ret
    all_goals refine ⟨?_, v, ?_⟩
    all_goals rw [HST.out]
    all_goals first | (show _ = Ending.returned (.bool (!s.fell)); rw [hf]; rfl) | exact ⟨QSt.same (HH.out _).1 rfl, Moved.same (HH.out _).2 rfl rfl rfl rfl⟩
  · have HST : Hid (orderX Q.K.mode (stepS s t) t 15 (ia : Int) (ib : Int) c = stepS s t) := by
      show (if getR (stepS s t) t (ia : Int) = 0 then _ else stepS s t) = _
      rw [stepS_getR htl, HVA.out, if_neg hz]
    clear hord
    clear hx hpre hop hLT
    go_enter Tryz.func98, Tryz.ntmps98
    go_wp2
    go_region
    all_goals go_wp2
    all_goals go_quiet (fail)
    all_goals go_wp2
    all_goals go_ret
    all_goals refine ⟨?_, v, ?_⟩
    all_goals rw [HST.out]
    all_goals first | (show _ = Ending.returned (.bool (!s.fell)); rw [hf]; rfl) | exact ⟨HD.out _ rfl, HM.out _ (by rfl) (by rfl) (by rfl) (by rfl)⟩
end

section
open Go.RowKit

theorem step_any (w : World) (B : Nat) (Q : Cd) (sb mb : Nat) (v : Rp → Value) (s : Sx) (ca : Option Addr) (X : Nat → Nat → Nat → Int) (n m lk rg t : Nat) (hx : Cy w B Q sb mb v s ca X n m lk rg t) :
    Calls Tryz.prog 98 #[.pointer (some ⟨sb, 0, none⟩), .int .i64 t] w (StepQ B Q sb mb v w (doX X Q.K.mode s (8 * t))) := by
  rw [doX_order]
  have hop := ok_op (hx.hc.ord t (thOf s t).pc hx.ht hx.hlt)
  change 1 ≤ opT X s t 0 ∧ opT X s t 0 ≤ 18 at hop
  rcases (by omega : opT X s t 0 = 1 ∨ opT X s t 0 = 2 ∨ opT X s t 0 = 3 ∨ opT X s t 0 = 4 ∨ opT X s t 0 = 5 ∨ opT X s t 0 = 6 ∨ opT X s t 0 = 7 ∨ opT X s t 0 = 8 ∨ opT X s t 0 = 9 ∨ opT X s t 0 = 10 ∨ opT X s t 0 = 11 ∨ opT X s t 0 = 12 ∨ opT X s t 0 = 13 ∨ opT X s t 0 = 14 ∨ opT X s t 0 = 15 ∨ opT X s t 0 = 16 ∨ opT X s t 0 = 17 ∨ opT X s t 0 = 18) with h | h | h | h | h | h | h | h | h | h | h | h | h | h | h | h | h | h
  · rw [h]; exact step_1 w B Q sb mb v s ca X n m lk rg t hx h
  · rw [h]; exact step_2 w B Q sb mb v s ca X n m lk rg t hx h
  · rw [h]; exact step_3 w B Q sb mb v s ca X n m lk rg t hx h
  · rw [h]; exact step_4 w B Q sb mb v s ca X n m lk rg t hx h
  · rw [h]; exact step_5 w B Q sb mb v s ca X n m lk rg t hx h
  · rw [h]; exact step_6 w B Q sb mb v s ca X n m lk rg t hx h
  · rw [h]; exact step_7 w B Q sb mb v s ca X n m lk rg t hx h
  · rw [h]; exact step_8 w B Q sb mb v s ca X n m lk rg t hx h
  · rw [h]; exact step_9 w B Q sb mb v s ca X n m lk rg t hx h
  · rw [h]; exact step_10 w B Q sb mb v s ca X n m lk rg t hx h
  · rw [h]; exact step_11 w B Q sb mb v s ca X n m lk rg t hx h
  · rw [h]; exact step_12 w B Q sb mb v s ca X n m lk rg t hx h
  · rw [h]; exact step_13 w B Q sb mb v s ca X n m lk rg t hx h
  · rw [h]; exact step_14 w B Q sb mb v s ca X n m lk rg t hx h
  · rw [h]; exact step_15 w B Q sb mb v s ca X n m lk rg t hx h
  · rw [h]; exact step_16 w B Q sb mb v s ca X n m lk rg t hx h
  · rw [h]; exact step_17 w B Q sb mb v s ca X n m lk rg t hx h
  · rw [h]; exact step_18 w B Q sb mb v s ca X n m lk rg t hx h

set_option maxRecDepth 100000 in
set_option maxHeartbeats 1600000 in
theorem pdo_any (w : World) (B : Nat) (Q : Cd) (sb mb : Nat) (v : Rp → Value) (s : Sx) (ca : Option Addr) (X : Nat → Nat → Nat → Int) (n m lk rg t : Nat) (hx : Cy w B Q sb mb v s ca X n m lk rg t) :
    Calls Tryz.prog 81 #[.pointer (some ⟨sb, 0, none⟩), .agg #[.int .i64 (t : Int), .int .i64 (-1)]] w (StepQ B Q sb mb v w (doX X Q.K.mode s (8 * t))) := by
  have HC : Hid (∀ o, Calls Tryz.prog 98 #[.pointer (some ⟨sb, 0, none⟩), .int .i64 t] (w.alloc o) (StepQ B Q sb mb v (w.alloc o) (doX X Q.K.mode s (8 * t)))) := fun o =>
    step_any (w.alloc o) B Q sb mb v s ca X n m lk rg t ⟨hx.ht, hx.hs.alloc o, by have := hx.hB; simp; omega, hx.ho, hx.hc, hx.hp.below ((Below.refl _ _).alloc (Nat.le_refl _) _), hx.hlt, hx.hpr, hx.hf, hx.hM, hx.hnt, hx.room⟩
  clear hx
  go_enter Tryz.func81, Tryz.ntmps81
  go_wp2_with fail
  refine Calls.mono (HC.out _) ?_
  rintro e w1 ⟨rfl, v1, hq1, hm1⟩
  go_wp2_with fail
  go_ret
  exact ⟨rfl, v1, hq1, ((Moved.refl _ _).alloc _).trans hm1⟩

set_option maxRecDepth 100000 in
set_option maxHeartbeats 1600000 in
theorem pfin_any (w : World) (B : Nat) (Q : Cd) (sb mb : Nat) (v : Rp → Value) (s : Sx) (X : Nat → Nat → Nat → Int) (t k : Nat) (hM : MLaw Q.K) (hmp : MPre w B Q sb mb v s t) (hlo : ∀ x, x ∈ (thOf s t).wait → x.lk = true → s.own.getD x.wh.toNat 0 = (t : Int)) (hf : s.fell = false) (hk : k < (thOf s t).wait.length) (hmay : mayW Q.K.mode (thOf s t).wait k = true) :
    Calls Tryz.prog 81 #[.pointer (some ⟨sb, 0, none⟩), .agg #[.int .i64 (t : Int), .int .i64 (k : Int)]] w (StepQ B Q sb mb v w (doX X Q.K.mode s (8 * t + k + 1))) := by
  have hw := hmp.hw
  have hfl : (doX X Q.K.mode s (8 * t + k + 1)).fell = false := by rw [fell_wait (by omega)]; exact hf
  obtain ⟨s4, hs4⟩ : ∃ x, doX X Q.K.mode s (8 * t + k + 1) = x := ⟨_, rfl⟩
  have HC : Hid (∀ o, Calls Tryz.prog Q.K.finish #[.pointer (some ⟨Q.top mb, 0, none⟩), .int .i64 t, .int .i64 k] (w.alloc o).drew (ChgQ B Q sb mb v (w.alloc o).drew s4 (.tuple #[]))) := fun o => by
    rw [← hs4]
    exact hM.finish (w.alloc o).drew B Q sb mb v s X t k rfl (hmp.below ((Below.refl _ _).alloc (Nat.le_refl _) _).drew) hlo hk hmay
  have c0 := cell_up hmp.hs.c0
  have lsb : sb < w.heap.size := lt_of_cell hmp.hs.c0
  have mF := hM.mFinish
  have kF := hM.cFinish
  have hk' : ¬ (k : Int) = -1 := by omega
  rw [hs4] at hfl ⊢
  have HFL : Hid (s4.fell = false) := hfl
  clear hmp hlo hs4 hmay hk hw hf hfl
  go_enter Tryz.func81, Tryz.ntmps81
  go_wp2_with fail
  refine region_tail 8 (by kernel_rfl) (by kernel_rfl) ?_
  simp only [List.take_succ_cons, List.take_zero, List.drop_succ_cons, List.drop_zero]
  repeat still_step
  refine wpStill_nil ?_
  go_wp2_with fail
  refine Calls.mono (HC.out _) ?_
  rintro e w1 ⟨rfl, v1, hq1, hm1, _⟩
  go_wp2_with fail
  go_ret
  exact ⟨by rw [HFL.out]; rfl, v1, hq1, ((Moved.refl _ _).alloc _).drew.trans hm1⟩

/-- Whatever can be picked can be done. -/
theorem pmove_any (w : World) (B : Nat) (Q : Cd) (sb mb : Nat) (v : Rp → Value) (s : Sx) (ca : Option Addr) (X : Nat → Nat → Nat → Int) (n m lk rg : Nat) (hs : QSt w B Q sb mb v s) (hB : B ≤ w.heap.size) (ho : SOk n Q.L m lk rg Q.K.mode s) (hc : COk n Q.L X m lk rg) (hp : PIn w ca n Q.A Q.L Q.C X) (hpr : s.prints.length ≤ 20000) (hf : s.fell = false) (hM : MLaw Q.K) (hnt : Q.nt = n) (hlk : LkI s) (mv : Int) (hmv : mv ∈ movesX Q.L X Q.K.mode s) :
    Calls Tryz.prog 81 #[.pointer (some ⟨sb, 0, none⟩), .agg #[.int .i64 (mv / 8), .int .i64 (mv % 8 - 1)]] w (StepQ B Q sb mb v w (doX X Q.K.mode s mv.toNat)) ∧ SOk n Q.L m lk rg Q.K.mode (doX X Q.K.mode s mv.toNat) ∧ (doX X Q.K.mode s mv.toNat).prints.length ≤ s.prints.length + 2 ∧ LkI (doX X Q.K.mode s mv.toNat) := by
  have hm0 : 0 ≤ Q.K.mode := by
    cases hb : Q.K.bf with
    | false => rw [hM.mode0 hb]; omega
    | true => have := hM.mode1 hb; omega
  have hn4 := hc.n4
  have hlk2 := hlk.move ho hc hm0 hmv
  rcases movesX_mem hmv with ⟨t, ht, rfl, ha⟩ | ⟨t, k, ht, hk, rfl, hmay⟩
  · have ht' : t < n := by rw [← ho.ths]; exact ht
    rw [show (8 * (t : Int)).toNat = 8 * t by omega] at hlk2 ⊢
    rw [show 8 * (t : Int) / 8 = (t : Int) by omega, show 8 * (t : Int) % 8 - 1 = -1 by omega]
    exact ⟨pdo_any w B Q sb mb v s ca X n m lk rg t ⟨ht', hs, hB, ho, hc, hp, able_lt ha, hpr, hf, hM, hnt, fun h => able_room ha h⟩, ho.step hc hm0 ht' ha, prints_step, hlk2⟩
  · have ht' : t < n := by rw [← ho.ths]; exact ht
    have hw := ho.wlen t ht'
    have hmp : MPre w B Q sb mb v s t := ⟨hs, hB, by rw [ho.ths]; exact hnt, by rw [ho.ths]; exact hn4, ht, by rw [ho.words]; exact hc.m64, by rw [ho.own]; exact hc.lk4, hw, fun x hx => by rw [ho.own, ho.words]; exact ho.wok t ht' x hx, fun hb => ho.bare (hM.mode0 hb) t ht'⟩
    rw [show (8 * (t : Int) + (k : Int) + 1).toNat = 8 * t + k + 1 by omega] at hlk2 ⊢
    rw [show (8 * (t : Int) + (k : Int) + 1) / 8 = (t : Int) by omega, show (8 * (t : Int) + (k : Int) + 1) % 8 - 1 = (k : Int) by omega]
    exact ⟨pfin_any w B Q sb mb v s X t k hM hmp (hlk.own t ht) hf hk hmay, ho.wait ht' hk, by rw [prints_wait (by omega)]; omega, hlk2⟩
end

end Go.Proofs.YtefnmbnakphhfadGreatDoor
