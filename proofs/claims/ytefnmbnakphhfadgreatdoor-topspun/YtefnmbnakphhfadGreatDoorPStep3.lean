/-
  Steps of the program's run.
-/
import Derived.Test.YtefnmbnakphhfadGreatDoorPStepP
namespace Go.Proofs.YtefnmbnakphhfadGreatDoor
open Go.RowKit

set_option maxRecDepth 100000 in
set_option maxHeartbeats 3200000 in
theorem step_8 (w : World) (B : Nat) (Q : Cd) (sb mb : Nat) (v : Rp → Value) (s : Sx) (ca : Option Addr) (X : Nat → Nat → Nat → Int) (n m lk rg t : Nat) (hx : Cy w B Q sb mb v s ca X n m lk rg t) (hop : opT X s t 0 = 8) :
    Calls Tryz.prog 98 #[.pointer (some ⟨sb, 0, none⟩), .int .i64 t] w (StepQ B Q sb mb v w (orderX Q.K.mode (stepS s t) t 8 (opT X s t 1) (opT X s t 2) (opT X s t 3))) := by
  obtain ⟨tb, tc, rb, rc, pc, ob, oo, ⟨htn, hn4, hpcl, hL4⟩, hpre⟩ := hx.pre
  have htl : t < s.ths.length := by have := hx.ho.ths; have := hx.ht; omega
  have hrl : (thOf s t).regs.length = rg := hx.ho.regs t hx.ht
  have hord := hx.hc.ord t (thOf s t).pc hx.ht hx.hlt
  have hrg2 := hx.hc.rg2
  have hwl : s.words.length = m := hx.ho.words
  have hol : s.own.length = lk := hx.ho.own
  have hm64 := hx.hc.m64
  have hlk4 := hx.hc.lk4
  have hM := hx.hM
  have hf := hx.hf
  have hthn := hx.ho.ths
  have hsl : (stepS s t).ths.length = s.ths.length := stepS_len s t
  have hsr : (thOf (stepS s t) t).regs.length = rg := by rw [stepS_regs htl]; exact hrl
  have HMPX : Hid (∀ W : World, QSt W B Q sb mb v (stepS s t) → w.heap.size ≤ W.heap.size → MPre W B Q sb mb v (stepS s t) t) := fun W hq hW => hx.mpre hq hW
  have hsf : (stepS s t).fell = false := hf
  change ordE rg m lk (Q.L t) (opT X s t 0) (opT X s t 1) (opT X s t 2) (opT X s t 3) = 0 at hord
  have d1 := hpre.c1
  have dc := hpre.cc
  have dp := hpre.cp
  have df := hpre.cf
  have dr := hpre.cr
  have y0 := hpre.y0
  have y1 := hpre.y1
  have y2 := hpre.y2
  have y3 := hpre.y3
  have nrt := hpre.nrt
  have ntr := hpre.ntr
  have nst := hpre.nst
  have nts := hpre.nts
  have lsb := hpre.lsb
  have lrb := hpre.lrb
  have ltb := hpre.ltb
  have lob := hpre.lob
  rw [hop] at hord y0
  obtain ⟨a, ea⟩ : ∃ x, opT X s t 1 = x := ⟨_, rfl⟩
  obtain ⟨b, eb⟩ : ∃ x, opT X s t 2 = x := ⟨_, rfl⟩
  obtain ⟨c, ec⟩ : ∃ x, opT X s t 3 = x := ⟨_, rfl⟩
  rw [ea, eb, ec] at hord ⊢
  rw [ea] at y1
  rw [eb] at y2
  rw [ec] at y3
  clear ea eb ec
  obtain ⟨⟨ia, rfl, ha⟩, ⟨ib, rfl, hb⟩⟩ := by
    have h3 := ok_load hord
    exact (⟨toN h3.1, toN h3.2⟩ : _ ∧ _)
  obtain ⟨LT, hLT⟩ : ∃ x, Q.L t = x := ⟨_, rfl⟩
  rw [hLT] at dc hpcl hL4
  have HP := Hid.out (p := Hid _) hpre
  have HX := Hid.out (p := Hid _) hx
  have HD : Hid (∀ W, W.heap = ((w.setCell ⟨tb, t * 3 + 1, none⟩ (.int .i64 ((pc : Int) + 1))).alloc (.cells #[.int .i64 8, .int .i64 (ia : Int), .int .i64 (ib : Int), .int .i64 c] 37)).heap → QSt W B Q sb mb v (stepS s t)) := fun W e => (hpre.D.alloc _).same e
  have HM : Hid (∀ W, W.heap = ((w.setCell ⟨tb, t * 3 + 1, none⟩ (.int .i64 ((pc : Int) + 1))).alloc (.cells #[.int .i64 8, .int .i64 (ia : Int), .int .i64 (ib : Int), .int .i64 c] 37)).heap → W.os = w.os → W.tape = w.tape → W.output = w.output → Moved w W v v) := fun W e e1 e2 e3 => Moved.same (hpre.M.alloc _) e e1 e2 e3
  have HC : Hid (∀ W, W.heap = ((w.setCell ⟨tb, t * 3 + 1, none⟩ (.int .i64 ((pc : Int) + 1))).alloc (.cells #[.int .i64 8, .int .i64 (ia : Int), .int .i64 (ib : Int), .int .i64 c] 37)).heap → Calls Tryz.prog 105 #[.pointer (some ⟨sb, 0, none⟩), .int .i64 t, ints4 8 (ia : Int) (ib : Int) c] W (StepQ B Q sb mb v W (orderX Q.K.mode (stepS s t) t 8 (ia : Int) (ib : Int) c))) := fun W e => by
    exact touch_8 W B Q sb mb v (stepS s t) rg t ia ib c hM (HMPX.out W (HD.out W e) (by rw [e]; simp [World.setCell])) (by rw [hsl]; exact htl) (by rw [hsl]; omega) hsr hrg2 (by show s.words.length ≤ 64; omega) hsf rfl ha (by show ib < s.words.length; omega)
  clear hord
  clear hx hpre hop hLT
  go_enter Tryz.func98, Tryz.ntmps98
  go_wp2
  go_region
  all_goals go_wp2_with fail
  all_goals refine Calls.mono (HC.out _ rfl) ?_
  all_goals rintro e w1 ⟨rfl, v1, hq1, hm1⟩
  all_goals go_wp2_with fail
  all_goals go_ret
  all_goals exact ⟨rfl, v1, hq1, (HM.out _ (by rfl) (by rfl) (by rfl) (by rfl)).trans hm1⟩

set_option maxRecDepth 100000 in
set_option maxHeartbeats 3200000 in
theorem step_9 (w : World) (B : Nat) (Q : Cd) (sb mb : Nat) (v : Rp → Value) (s : Sx) (ca : Option Addr) (X : Nat → Nat → Nat → Int) (n m lk rg t : Nat) (hx : Cy w B Q sb mb v s ca X n m lk rg t) (hop : opT X s t 0 = 9) :
    Calls Tryz.prog 98 #[.pointer (some ⟨sb, 0, none⟩), .int .i64 t] w (StepQ B Q sb mb v w (orderX Q.K.mode (stepS s t) t 9 (opT X s t 1) (opT X s t 2) (opT X s t 3))) := by
  obtain ⟨tb, tc, rb, rc, pc, ob, oo, ⟨htn, hn4, hpcl, hL4⟩, hpre⟩ := hx.pre
  have htl : t < s.ths.length := by have := hx.ho.ths; have := hx.ht; omega
  have hrl : (thOf s t).regs.length = rg := hx.ho.regs t hx.ht
  have hord := hx.hc.ord t (thOf s t).pc hx.ht hx.hlt
  have hrg2 := hx.hc.rg2
  have hwl : s.words.length = m := hx.ho.words
  have hol : s.own.length = lk := hx.ho.own
  have hm64 := hx.hc.m64
  have hlk4 := hx.hc.lk4
  have hM := hx.hM
  have hf := hx.hf
  have hthn := hx.ho.ths
  have hsl : (stepS s t).ths.length = s.ths.length := stepS_len s t
  have hsr : (thOf (stepS s t) t).regs.length = rg := by rw [stepS_regs htl]; exact hrl
  have HMPX : Hid (∀ W : World, QSt W B Q sb mb v (stepS s t) → w.heap.size ≤ W.heap.size → MPre W B Q sb mb v (stepS s t) t) := fun W hq hW => hx.mpre hq hW
  have hsf : (stepS s t).fell = false := hf
  change ordE rg m lk (Q.L t) (opT X s t 0) (opT X s t 1) (opT X s t 2) (opT X s t 3) = 0 at hord
  have d1 := hpre.c1
  have dc := hpre.cc
  have dp := hpre.cp
  have df := hpre.cf
  have dr := hpre.cr
  have y0 := hpre.y0
  have y1 := hpre.y1
  have y2 := hpre.y2
  have y3 := hpre.y3
  have nrt := hpre.nrt
  have ntr := hpre.ntr
  have nst := hpre.nst
  have nts := hpre.nts
  have lsb := hpre.lsb
  have lrb := hpre.lrb
  have ltb := hpre.ltb
  have lob := hpre.lob
  rw [hop] at hord y0
  obtain ⟨a, ea⟩ : ∃ x, opT X s t 1 = x := ⟨_, rfl⟩
  obtain ⟨b, eb⟩ : ∃ x, opT X s t 2 = x := ⟨_, rfl⟩
  obtain ⟨c, ec⟩ : ∃ x, opT X s t 3 = x := ⟨_, rfl⟩
  rw [ea, eb, ec] at hord ⊢
  rw [ea] at y1
  rw [eb] at y2
  rw [ec] at y3
  clear ea eb ec
  obtain ⟨⟨ia, rfl, ha⟩, ⟨ib, rfl, hb⟩⟩ := by
    have h3 := ok_store hord
    exact (⟨toN h3.1, toN h3.2⟩ : _ ∧ _)
  obtain ⟨LT, hLT⟩ : ∃ x, Q.L t = x := ⟨_, rfl⟩
  rw [hLT] at dc hpcl hL4
  have HP := Hid.out (p := Hid _) hpre
  have HX := Hid.out (p := Hid _) hx
  have HD : Hid (∀ W, W.heap = ((w.setCell ⟨tb, t * 3 + 1, none⟩ (.int .i64 ((pc : Int) + 1))).alloc (.cells #[.int .i64 9, .int .i64 (ia : Int), .int .i64 (ib : Int), .int .i64 c] 37)).heap → QSt W B Q sb mb v (stepS s t)) := fun W e => (hpre.D.alloc _).same e
  have HM : Hid (∀ W, W.heap = ((w.setCell ⟨tb, t * 3 + 1, none⟩ (.int .i64 ((pc : Int) + 1))).alloc (.cells #[.int .i64 9, .int .i64 (ia : Int), .int .i64 (ib : Int), .int .i64 c] 37)).heap → W.os = w.os → W.tape = w.tape → W.output = w.output → Moved w W v v) := fun W e e1 e2 e3 => Moved.same (hpre.M.alloc _) e e1 e2 e3
  have HC : Hid (∀ W, W.heap = ((w.setCell ⟨tb, t * 3 + 1, none⟩ (.int .i64 ((pc : Int) + 1))).alloc (.cells #[.int .i64 9, .int .i64 (ia : Int), .int .i64 (ib : Int), .int .i64 c] 37)).heap → Calls Tryz.prog 105 #[.pointer (some ⟨sb, 0, none⟩), .int .i64 t, ints4 9 (ia : Int) (ib : Int) c] W (StepQ B Q sb mb v W (orderX Q.K.mode (stepS s t) t 9 (ia : Int) (ib : Int) c))) := fun W e => by
    exact touch_9 W B Q sb mb v (stepS s t) rg t ia ib c hM (HMPX.out W (HD.out W e) (by rw [e]; simp [World.setCell])) (by rw [hsl]; exact htl) (by rw [hsl]; omega) hsr hrg2 (by show s.words.length ≤ 64; omega) hsf rfl (by rw [stepS_wait htl]; exact hx.room (by rw [hop]; decide)) (by show ia < s.words.length; omega) hb
  clear hord
  clear hx hpre hop hLT
  go_enter Tryz.func98, Tryz.ntmps98
  go_wp2
  go_region
  all_goals go_wp2_with fail
  all_goals refine Calls.mono (HC.out _ rfl) ?_
  all_goals rintro e w1 ⟨rfl, v1, hq1, hm1⟩
  all_goals go_wp2_with fail
  all_goals go_ret
  all_goals exact ⟨rfl, v1, hq1, (HM.out _ (by rfl) (by rfl) (by rfl) (by rfl)).trans hm1⟩

set_option maxRecDepth 100000 in
set_option maxHeartbeats 3200000 in
theorem step_10 (w : World) (B : Nat) (Q : Cd) (sb mb : Nat) (v : Rp → Value) (s : Sx) (ca : Option Addr) (X : Nat → Nat → Nat → Int) (n m lk rg t : Nat) (hx : Cy w B Q sb mb v s ca X n m lk rg t) (hop : opT X s t 0 = 10) :
    Calls Tryz.prog 98 #[.pointer (some ⟨sb, 0, none⟩), .int .i64 t] w (StepQ B Q sb mb v w (orderX Q.K.mode (stepS s t) t 10 (opT X s t 1) (opT X s t 2) (opT X s t 3))) := by
  obtain ⟨tb, tc, rb, rc, pc, ob, oo, ⟨htn, hn4, hpcl, hL4⟩, hpre⟩ := hx.pre
  have htl : t < s.ths.length := by have := hx.ho.ths; have := hx.ht; omega
  have hrl : (thOf s t).regs.length = rg := hx.ho.regs t hx.ht
  have hord := hx.hc.ord t (thOf s t).pc hx.ht hx.hlt
  have hrg2 := hx.hc.rg2
  have hwl : s.words.length = m := hx.ho.words
  have hol : s.own.length = lk := hx.ho.own
  have hm64 := hx.hc.m64
  have hlk4 := hx.hc.lk4
  have hM := hx.hM
  have hf := hx.hf
  have hthn := hx.ho.ths
  have hsl : (stepS s t).ths.length = s.ths.length := stepS_len s t
  have hsr : (thOf (stepS s t) t).regs.length = rg := by rw [stepS_regs htl]; exact hrl
  have HMPX : Hid (∀ W : World, QSt W B Q sb mb v (stepS s t) → w.heap.size ≤ W.heap.size → MPre W B Q sb mb v (stepS s t) t) := fun W hq hW => hx.mpre hq hW
  have hsf : (stepS s t).fell = false := hf
  change ordE rg m lk (Q.L t) (opT X s t 0) (opT X s t 1) (opT X s t 2) (opT X s t 3) = 0 at hord
  have d1 := hpre.c1
  have dc := hpre.cc
  have dp := hpre.cp
  have df := hpre.cf
  have dr := hpre.cr
  have y0 := hpre.y0
  have y1 := hpre.y1
  have y2 := hpre.y2
  have y3 := hpre.y3
  have nrt := hpre.nrt
  have ntr := hpre.ntr
  have nst := hpre.nst
  have nts := hpre.nts
  have lsb := hpre.lsb
  have lrb := hpre.lrb
  have ltb := hpre.ltb
  have lob := hpre.lob
  rw [hop] at hord y0
  obtain ⟨a, ea⟩ : ∃ x, opT X s t 1 = x := ⟨_, rfl⟩
  obtain ⟨b, eb⟩ : ∃ x, opT X s t 2 = x := ⟨_, rfl⟩
  obtain ⟨c, ec⟩ : ∃ x, opT X s t 3 = x := ⟨_, rfl⟩
  rw [ea, eb, ec] at hord ⊢
  rw [ea] at y1
  rw [eb] at y2
  rw [ec] at y3
  clear ea eb ec
  obtain ⟨⟨ia, rfl, ha⟩, ⟨ib, rfl, hb⟩⟩ := by
    have h3 := ok_rr (by omega) hord
    exact (⟨toN h3.1, toN h3.2⟩ : _ ∧ _)
  obtain ⟨LT, hLT⟩ : ∃ x, Q.L t = x := ⟨_, rfl⟩
  rw [hLT] at dc hpcl hL4
  have HP := Hid.out (p := Hid _) hpre
  have HX := Hid.out (p := Hid _) hx
  have HD : Hid (∀ W, W.heap = ((w.setCell ⟨tb, t * 3 + 1, none⟩ (.int .i64 ((pc : Int) + 1))).alloc (.cells #[.int .i64 10, .int .i64 (ia : Int), .int .i64 (ib : Int), .int .i64 c] 37)).heap → QSt W B Q sb mb v (stepS s t)) := fun W e => (hpre.D.alloc _).same e
  have HM : Hid (∀ W, W.heap = ((w.setCell ⟨tb, t * 3 + 1, none⟩ (.int .i64 ((pc : Int) + 1))).alloc (.cells #[.int .i64 10, .int .i64 (ia : Int), .int .i64 (ib : Int), .int .i64 c] 37)).heap → W.os = w.os → W.tape = w.tape → W.output = w.output → Moved w W v v) := fun W e e1 e2 e3 => Moved.same (hpre.M.alloc _) e e1 e2 e3
  have HC : Hid (∀ W, W.heap = ((w.setCell ⟨tb, t * 3 + 1, none⟩ (.int .i64 ((pc : Int) + 1))).alloc (.cells #[.int .i64 10, .int .i64 (ia : Int), .int .i64 (ib : Int), .int .i64 c] 37)).heap → Calls Tryz.prog 105 #[.pointer (some ⟨sb, 0, none⟩), .int .i64 t, ints4 10 (ia : Int) (ib : Int) c] W (StepQ B Q sb mb v W (orderX Q.K.mode (stepS s t) t 10 (ia : Int) (ib : Int) c))) := fun W e => by
    by_cases hin : 0 ≤ getR (stepS s t) t (ib : Int) ∧ getR (stepS s t) t (ib : Int) < (s.words.length : Int)
    · obtain ⟨wd, hwd, hwd2⟩ := toN hin
      exact touch_10y W B Q sb mb v (stepS s t) rg t ia ib c hM (HMPX.out W (HD.out W e) (by rw [e]; simp [World.setCell])) (by rw [hsl]; exact htl) (by rw [hsl]; omega) hsr hrg2 (by show s.words.length ≤ 64; omega) hsf wd hwd (by
        show (if getR (stepS s t) t (ib : Int) < 0 ∨ ((stepS s t).words.length : Int) ≤ getR (stepS s t) t (ib : Int) then _ else setR (stepS s t) t (ia : Int) (findsW (stepS s t) t (getR (stepS s t) t (ib : Int)))) = _
        rw [if_neg (by show ¬ (_ ∨ (s.words.length : Int) ≤ _); omega), hwd]) ha hb hwd2
    · exact touch_10n W B Q sb mb v (stepS s t) rg t ia ib c hM (HMPX.out W (HD.out W e) (by rw [e]; simp [World.setCell])) (by rw [hsl]; exact htl) (by rw [hsl]; omega) hsr hrg2 (by show s.words.length ≤ 64; omega) hsf _ rfl (by show _ ∨ (s.words.length : Int) ≤ _; omega) (by
        show (if getR (stepS s t) t (ib : Int) < 0 ∨ ((stepS s t).words.length : Int) ≤ getR (stepS s t) t (ib : Int) then _ else _) = _
        rw [if_pos (by show _ ∨ (s.words.length : Int) ≤ _; omega)]) ha hb
  clear hord
  clear hx hpre hop hLT
  go_enter Tryz.func98, Tryz.ntmps98
  go_wp2
  go_region
  all_goals go_wp2_with fail
  all_goals refine Calls.mono (HC.out _ rfl) ?_
  all_goals rintro e w1 ⟨rfl, v1, hq1, hm1⟩
  all_goals go_wp2_with fail
  all_goals go_ret
  all_goals exact ⟨rfl, v1, hq1, (HM.out _ (by rfl) (by rfl) (by rfl) (by rfl)).trans hm1⟩

set_option maxRecDepth 100000 in
set_option maxHeartbeats 3200000 in
theorem step_11 (w : World) (B : Nat) (Q : Cd) (sb mb : Nat) (v : Rp → Value) (s : Sx) (ca : Option Addr) (X : Nat → Nat → Nat → Int) (n m lk rg t : Nat) (hx : Cy w B Q sb mb v s ca X n m lk rg t) (hop : opT X s t 0 = 11) :
    Calls Tryz.prog 98 #[.pointer (some ⟨sb, 0, none⟩), .int .i64 t] w (StepQ B Q sb mb v w (orderX Q.K.mode (stepS s t) t 11 (opT X s t 1) (opT X s t 2) (opT X s t 3))) := by
  obtain ⟨tb, tc, rb, rc, pc, ob, oo, ⟨htn, hn4, hpcl, hL4⟩, hpre⟩ := hx.pre
  have htl : t < s.ths.length := by have := hx.ho.ths; have := hx.ht; omega
  have hrl : (thOf s t).regs.length = rg := hx.ho.regs t hx.ht
  have hord := hx.hc.ord t (thOf s t).pc hx.ht hx.hlt
  have hrg2 := hx.hc.rg2
  have hwl : s.words.length = m := hx.ho.words
  have hol : s.own.length = lk := hx.ho.own
  have hm64 := hx.hc.m64
  have hlk4 := hx.hc.lk4
  have hM := hx.hM
  have hf := hx.hf
  have hthn := hx.ho.ths
  have hsl : (stepS s t).ths.length = s.ths.length := stepS_len s t
  have hsr : (thOf (stepS s t) t).regs.length = rg := by rw [stepS_regs htl]; exact hrl
  have HMPX : Hid (∀ W : World, QSt W B Q sb mb v (stepS s t) → w.heap.size ≤ W.heap.size → MPre W B Q sb mb v (stepS s t) t) := fun W hq hW => hx.mpre hq hW
  have hsf : (stepS s t).fell = false := hf
  change ordE rg m lk (Q.L t) (opT X s t 0) (opT X s t 1) (opT X s t 2) (opT X s t 3) = 0 at hord
  have d1 := hpre.c1
  have dc := hpre.cc
  have dp := hpre.cp
  have df := hpre.cf
  have dr := hpre.cr
  have y0 := hpre.y0
  have y1 := hpre.y1
  have y2 := hpre.y2
  have y3 := hpre.y3
  have nrt := hpre.nrt
  have ntr := hpre.ntr
  have nst := hpre.nst
  have nts := hpre.nts
  have lsb := hpre.lsb
  have lrb := hpre.lrb
  have ltb := hpre.ltb
  have lob := hpre.lob
  rw [hop] at hord y0
  obtain ⟨a, ea⟩ : ∃ x, opT X s t 1 = x := ⟨_, rfl⟩
  obtain ⟨b, eb⟩ : ∃ x, opT X s t 2 = x := ⟨_, rfl⟩
  obtain ⟨c, ec⟩ : ∃ x, opT X s t 3 = x := ⟨_, rfl⟩
  rw [ea, eb, ec] at hord ⊢
  rw [ea] at y1
  rw [eb] at y2
  rw [ec] at y3
  clear ea eb ec
  obtain ⟨⟨ia, rfl, ha⟩, ⟨ib, rfl, hb⟩⟩ := by
    have h3 := ok_rr (by omega) hord
    exact (⟨toN h3.1, toN h3.2⟩ : _ ∧ _)
  obtain ⟨LT, hLT⟩ : ∃ x, Q.L t = x := ⟨_, rfl⟩
  rw [hLT] at dc hpcl hL4
  have HP := Hid.out (p := Hid _) hpre
  have HX := Hid.out (p := Hid _) hx
  have HD : Hid (∀ W, W.heap = ((w.setCell ⟨tb, t * 3 + 1, none⟩ (.int .i64 ((pc : Int) + 1))).alloc (.cells #[.int .i64 11, .int .i64 (ia : Int), .int .i64 (ib : Int), .int .i64 c] 37)).heap → QSt W B Q sb mb v (stepS s t)) := fun W e => (hpre.D.alloc _).same e
  have HM : Hid (∀ W, W.heap = ((w.setCell ⟨tb, t * 3 + 1, none⟩ (.int .i64 ((pc : Int) + 1))).alloc (.cells #[.int .i64 11, .int .i64 (ia : Int), .int .i64 (ib : Int), .int .i64 c] 37)).heap → W.os = w.os → W.tape = w.tape → W.output = w.output → Moved w W v v) := fun W e e1 e2 e3 => Moved.same (hpre.M.alloc _) e e1 e2 e3
  have HC : Hid (∀ W, W.heap = ((w.setCell ⟨tb, t * 3 + 1, none⟩ (.int .i64 ((pc : Int) + 1))).alloc (.cells #[.int .i64 11, .int .i64 (ia : Int), .int .i64 (ib : Int), .int .i64 c] 37)).heap → Calls Tryz.prog 105 #[.pointer (some ⟨sb, 0, none⟩), .int .i64 t, ints4 11 (ia : Int) (ib : Int) c] W (StepQ B Q sb mb v W (orderX Q.K.mode (stepS s t) t 11 (ia : Int) (ib : Int) c))) := fun W e => by
    by_cases hin : 0 ≤ getR (stepS s t) t (ia : Int) ∧ getR (stepS s t) t (ia : Int) < (s.words.length : Int)
    · obtain ⟨wd, hwd, hwd2⟩ := toN hin
      exact touch_11y W B Q sb mb v (stepS s t) rg t ia ib c hM (HMPX.out W (HD.out W e) (by rw [e]; simp [World.setCell])) (by rw [hsl]; exact htl) (by rw [hsl]; omega) hsr hrg2 (by show s.words.length ≤ 64; omega) hsf wd hwd (by
        show (if getR (stepS s t) t (ia : Int) < 0 ∨ ((stepS s t).words.length : Int) ≤ getR (stepS s t) t (ia : Int) then _ else storeW Q.K.mode (stepS s t) t ⟨false, getR (stepS s t) t (ia : Int), getR (stepS s t) t (ib : Int)⟩) = _
        rw [if_neg (by show ¬ (_ ∨ (s.words.length : Int) ≤ _); omega), hwd]) (by rw [stepS_wait htl]; exact hx.room (by rw [hop]; decide)) ha hb hwd2
    · exact touch_11n W B Q sb mb v (stepS s t) rg t ia ib c hM (HMPX.out W (HD.out W e) (by rw [e]; simp [World.setCell])) (by rw [hsl]; exact htl) (by rw [hsl]; omega) hsr hrg2 (by show s.words.length ≤ 64; omega) hsf _ rfl (by show _ ∨ (s.words.length : Int) ≤ _; omega) (by
        show (if getR (stepS s t) t (ia : Int) < 0 ∨ ((stepS s t).words.length : Int) ≤ getR (stepS s t) t (ia : Int) then _ else _) = _
        rw [if_pos (by show _ ∨ (s.words.length : Int) ≤ _; omega)]) ha hb
  clear hord
  clear hx hpre hop hLT
  go_enter Tryz.func98, Tryz.ntmps98
  go_wp2
  go_region
  all_goals go_wp2_with fail
  all_goals refine Calls.mono (HC.out _ rfl) ?_
  all_goals rintro e w1 ⟨rfl, v1, hq1, hm1⟩
  all_goals go_wp2_with fail
  all_goals go_ret
  all_goals exact ⟨rfl, v1, hq1, (HM.out _ (by rfl) (by rfl) (by rfl) (by rfl)).trans hm1⟩

end Go.Proofs.YtefnmbnakphhfadGreatDoor
