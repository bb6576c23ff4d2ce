/-
  Moves of the document's run: the orders that a thread's registers alone have to do with.
  Moves of the document's run: jumps.
-/
import Derived.Test.YtocfocjnnjdcgaaDoorRDoP
namespace Go.Proofs.YtocfocjnnjdcgaaDoor
section
open Go.RowKit

set_option maxRecDepth 100000 in
set_option maxHeartbeats 3200000 in
theorem do_5 (w : World) (B sb : Nat) (P : Pg) (v : Rl → Value) (s : Sx) (A : Nat → Option Addr) (L C : Nat → Nat) (X : Nat → Nat → Nat → Int) (m lk rg t : Nat) (mv : Int) (_h0 : 0 ≤ mv) (_h1 : mv ≤ 1000) (hq : mv / 8 = t) (hr : mv % 8 = 0) (hx : Cx w B sb P v s A L C X m lk rg t) (hop : opT X s t 0 = 5) :
    Calls Tryd.prog 80 #[.pointer (some ⟨sb, 0, none⟩), .int .i64 mv] w (DoQ B sb P v w (orderX P.mode (stepS s t) t 5 (opT X s t 1) (opT X s t 2) (opT X s t 3))) := by
  obtain ⟨n, tb, tc, rb, rc, pc, ⟨htn, hn4, hpc4⟩, HPC, c5, HNX, HPRE⟩ := hx.pre
  have htl : t < s.ths.length := by have := hx.ho.ths; have := hx.ht; omega
  have hrl : (thOf s t).regs.length = rg := hx.ho.regs t hx.ht
  have hord := hx.hc.ord t (thOf s t).pc hx.ht hx.hlt
  have hsz := hx.hc.L4 t hx.ht
  have hrg2 := hx.hc.rg2
  change ordE rg m lk (L t) (opT X s t 0) (opT X s t 1) (opT X s t 2) (opT X s t 3) = 0 at hord
  rw [hop] at hord
  rw [hop] at HNX
  obtain ⟨a, ea⟩ : ∃ x, opT X s t 1 = x := ⟨_, rfl⟩
  obtain ⟨b, eb⟩ : ∃ x, opT X s t 2 = x := ⟨_, rfl⟩
  obtain ⟨c, ec⟩ : ∃ x, opT X s t 3 = x := ⟨_, rfl⟩
  rw [ea, eb, ec] at hord HNX ⊢
  clear ea eb ec
  obtain ⟨⟨ia, rfl, ha⟩, ⟨ib, rfl, hb⟩, ⟨ic, rfl, hc⟩⟩ := by
    have h3 := ok_rrr (by omega) hord
    exact (⟨toN h3.1, toN h3.2.1, toN h3.2.2⟩ : _ ∧ _ ∧ _)
  have HST : Hid (orderX P.mode (stepS s t) t 5 (ia : Int) (ib : Int) (ic : Int) = setR (stepS s t) t (ia : Int) (wrap64 (getR s t (ib : Int) * getR s t (ic : Int)))) := by
    show setR (stepS s t) t (ia : Int) _ = _
    simp only [stepS_getR htl, IntWalk.i64_left]
  obtain ⟨Vb, eb⟩ : ∃ x, getR s t (ib : Int) = x := ⟨_, rfl⟩
  have HVb : Hid (getR s t (ib : Int) = Vb) := eb
  obtain ⟨Vc, ec⟩ : ∃ x, getR s t (ic : Int) = x := ⟨_, rfl⟩
  have HVc : Hid (getR s t (ic : Int) = Vc) := ec
  rw [eb, ec] at HST
  clear eb ec
  have HX := Hid.out (p := Hid _) hx
  clear hx hord hop hsz
  go_enter Tryd.func80, Tryd.ntmps80
  go_wp2_with fail
  refine Calls.mono HNX.out ?_
  rintro e w1 ⟨rfl, hb1⟩
  have HP := HPRE.out w1 hb1
  have d5 := HP.c5
  have dp := HP.cp
  have df := HP.cf
  have dr := HP.cr
  have nrt := HP.nrt
  have ntr := HP.ntr
  have lrb := HP.lrb
  have ltb := HP.ltb
  have fa := HP.frz ia
  have wa := HP.regW htl (r := ia) (by omega)
  have wb := HP.regW htl (r := ib) (by omega)
  rw [HVb.out] at wb
  have wc := HP.regW htl (r := ic) (by omega)
  rw [HVc.out] at wc
  obtain ⟨VA, eA⟩ : ∃ x, getR s t (ia : Int) = x := ⟨_, rfl⟩
  rw [eA] at wa
  clear eA
  have HF := Hid.out (p := Hid _) (HP.fin htl ia (wrap64 (Vb * Vc)))
  clear HP HPRE HNX
  go_wp2
  refine region_tail 15 (by kernel_rfl) (by kernel_rfl) ?_
  simp only [List.take_succ_cons, List.take_zero, List.drop_succ_cons, List.drop_zero]
  repeat still_step
  refine wpStill_nil ?_
  all_goals go_wp2
  all_goals go_end0
  all_goals refine ⟨rfl, v, ?_⟩
  all_goals rw [HST.out]
  all_goals exact ⟨(HF.out.1.alloc _).drew, (HF.out.2.alloc _).drew⟩

set_option maxRecDepth 100000 in
set_option maxHeartbeats 3200000 in
theorem do_6 (w : World) (B sb : Nat) (P : Pg) (v : Rl → Value) (s : Sx) (A : Nat → Option Addr) (L C : Nat → Nat) (X : Nat → Nat → Nat → Int) (m lk rg t : Nat) (mv : Int) (_h0 : 0 ≤ mv) (_h1 : mv ≤ 1000) (hq : mv / 8 = t) (hr : mv % 8 = 0) (hx : Cx w B sb P v s A L C X m lk rg t) (hop : opT X s t 0 = 6) :
    Calls Tryd.prog 80 #[.pointer (some ⟨sb, 0, none⟩), .int .i64 mv] w (DoQ B sb P v w (orderX P.mode (stepS s t) t 6 (opT X s t 1) (opT X s t 2) (opT X s t 3))) := by
  obtain ⟨n, tb, tc, rb, rc, pc, ⟨htn, hn4, hpc4⟩, HPC, c5, HNX, HPRE⟩ := hx.pre
  have htl : t < s.ths.length := by have := hx.ho.ths; have := hx.ht; omega
  have hrl : (thOf s t).regs.length = rg := hx.ho.regs t hx.ht
  have hord := hx.hc.ord t (thOf s t).pc hx.ht hx.hlt
  have hsz := hx.hc.L4 t hx.ht
  have hrg2 := hx.hc.rg2
  change ordE rg m lk (L t) (opT X s t 0) (opT X s t 1) (opT X s t 2) (opT X s t 3) = 0 at hord
  rw [hop] at hord
  rw [hop] at HNX
  obtain ⟨a, ea⟩ : ∃ x, opT X s t 1 = x := ⟨_, rfl⟩
  obtain ⟨b, eb⟩ : ∃ x, opT X s t 2 = x := ⟨_, rfl⟩
  obtain ⟨c, ec⟩ : ∃ x, opT X s t 3 = x := ⟨_, rfl⟩
  rw [ea, eb, ec] at hord HNX ⊢
  clear ea eb ec
  obtain ⟨⟨ia, rfl, ha⟩, ⟨ib, rfl, hb⟩, ⟨ic, rfl, hc⟩⟩ := by
    have h3 := ok_rrr (by omega) hord
    exact (⟨toN h3.1, toN h3.2.1, toN h3.2.2⟩ : _ ∧ _ ∧ _)
  have HST : Hid (orderX P.mode (stepS s t) t 6 (ia : Int) (ib : Int) (ic : Int) = setR (stepS s t) t (ia : Int) (bitI (decide (getR s t (ib : Int) < getR s t (ic : Int))))) := by
    show setR (stepS s t) t (ia : Int) _ = _
    simp only [stepS_getR htl]
  obtain ⟨Vb, eb⟩ : ∃ x, getR s t (ib : Int) = x := ⟨_, rfl⟩
  have HVb : Hid (getR s t (ib : Int) = Vb) := eb
  obtain ⟨Vc, ec⟩ : ∃ x, getR s t (ic : Int) = x := ⟨_, rfl⟩
  have HVc : Hid (getR s t (ic : Int) = Vc) := ec
  rw [eb, ec] at HST
  clear eb ec
  have HX := Hid.out (p := Hid _) hx
  clear hx hord hop hsz
  go_enter Tryd.func80, Tryd.ntmps80
  go_wp2_with fail
  refine Calls.mono HNX.out ?_
  rintro e w1 ⟨rfl, hb1⟩
  have HP := HPRE.out w1 hb1
  have d5 := HP.c5
  have dp := HP.cp
  have df := HP.cf
  have dr := HP.cr
  have nrt := HP.nrt
  have ntr := HP.ntr
  have lrb := HP.lrb
  have ltb := HP.ltb
  have fa := HP.frz ia
  have wa := HP.regW htl (r := ia) (by omega)
  have wb := HP.regW htl (r := ib) (by omega)
  rw [HVb.out] at wb
  have wc := HP.regW htl (r := ic) (by omega)
  rw [HVc.out] at wc
  obtain ⟨VA, eA⟩ : ∃ x, getR s t (ia : Int) = x := ⟨_, rfl⟩
  rw [eA] at wa
  clear eA
  have HF := Hid.out (p := Hid _) (HP.fin htl ia (bitI (decide (Vb < Vc))))
  clear HP HPRE HNX
  go_wp2
  refine region_tail 16 (by kernel_rfl) (by kernel_rfl) ?_
  simp only [List.take_succ_cons, List.take_zero, List.drop_succ_cons, List.drop_zero]
  repeat still_step
  still_call (bit_any _ _)
  repeat still_step
  refine wpStill_nil ?_
  all_goals go_wp2
  all_goals go_end0
  all_goals refine ⟨rfl, v, ?_⟩
  all_goals rw [HST.out]
  all_goals exact ⟨(HF.out.1.alloc _).drew, (HF.out.2.alloc _).drew⟩

set_option maxRecDepth 100000 in
set_option maxHeartbeats 3200000 in
theorem do_7 (w : World) (B sb : Nat) (P : Pg) (v : Rl → Value) (s : Sx) (A : Nat → Option Addr) (L C : Nat → Nat) (X : Nat → Nat → Nat → Int) (m lk rg t : Nat) (mv : Int) (_h0 : 0 ≤ mv) (_h1 : mv ≤ 1000) (hq : mv / 8 = t) (hr : mv % 8 = 0) (hx : Cx w B sb P v s A L C X m lk rg t) (hop : opT X s t 0 = 7) :
    Calls Tryd.prog 80 #[.pointer (some ⟨sb, 0, none⟩), .int .i64 mv] w (DoQ B sb P v w (orderX P.mode (stepS s t) t 7 (opT X s t 1) (opT X s t 2) (opT X s t 3))) := by
  obtain ⟨n, tb, tc, rb, rc, pc, ⟨htn, hn4, hpc4⟩, HPC, c5, HNX, HPRE⟩ := hx.pre
  have htl : t < s.ths.length := by have := hx.ho.ths; have := hx.ht; omega
  have hrl : (thOf s t).regs.length = rg := hx.ho.regs t hx.ht
  have hord := hx.hc.ord t (thOf s t).pc hx.ht hx.hlt
  have hsz := hx.hc.L4 t hx.ht
  have hrg2 := hx.hc.rg2
  change ordE rg m lk (L t) (opT X s t 0) (opT X s t 1) (opT X s t 2) (opT X s t 3) = 0 at hord
  rw [hop] at hord
  rw [hop] at HNX
  obtain ⟨a, ea⟩ : ∃ x, opT X s t 1 = x := ⟨_, rfl⟩
  obtain ⟨b, eb⟩ : ∃ x, opT X s t 2 = x := ⟨_, rfl⟩
  obtain ⟨c, ec⟩ : ∃ x, opT X s t 3 = x := ⟨_, rfl⟩
  rw [ea, eb, ec] at hord HNX ⊢
  clear ea eb ec
  obtain ⟨⟨ia, rfl, ha⟩, ⟨ib, rfl, hb⟩, ⟨ic, rfl, hc⟩⟩ := by
    have h3 := ok_rrr (by omega) hord
    exact (⟨toN h3.1, toN h3.2.1, toN h3.2.2⟩ : _ ∧ _ ∧ _)
  have HST : Hid (orderX P.mode (stepS s t) t 7 (ia : Int) (ib : Int) (ic : Int) = setR (stepS s t) t (ia : Int) (bitI (decide (getR s t (ib : Int) = getR s t (ic : Int))))) := by
    show setR (stepS s t) t (ia : Int) _ = _
    simp only [stepS_getR htl]
  obtain ⟨Vb, eb⟩ : ∃ x, getR s t (ib : Int) = x := ⟨_, rfl⟩
  have HVb : Hid (getR s t (ib : Int) = Vb) := eb
  obtain ⟨Vc, ec⟩ : ∃ x, getR s t (ic : Int) = x := ⟨_, rfl⟩
  have HVc : Hid (getR s t (ic : Int) = Vc) := ec
  rw [eb, ec] at HST
  clear eb ec
  have HX := Hid.out (p := Hid _) hx
  clear hx hord hop hsz
  go_enter Tryd.func80, Tryd.ntmps80
  go_wp2_with fail
  refine Calls.mono HNX.out ?_
  rintro e w1 ⟨rfl, hb1⟩
  have HP := HPRE.out w1 hb1
  have d5 := HP.c5
  have dp := HP.cp
  have df := HP.cf
  have dr := HP.cr
  have nrt := HP.nrt
  have ntr := HP.ntr
  have lrb := HP.lrb
  have ltb := HP.ltb
  have fa := HP.frz ia
  have wa := HP.regW htl (r := ia) (by omega)
  have wb := HP.regW htl (r := ib) (by omega)
  rw [HVb.out] at wb
  have wc := HP.regW htl (r := ic) (by omega)
  rw [HVc.out] at wc
  obtain ⟨VA, eA⟩ : ∃ x, getR s t (ia : Int) = x := ⟨_, rfl⟩
  rw [eA] at wa
  clear eA
  have HF := Hid.out (p := Hid _) (HP.fin htl ia (bitI (decide (Vb = Vc))))
  clear HP HPRE HNX
  go_wp2
  refine region_tail 16 (by kernel_rfl) (by kernel_rfl) ?_
  simp only [List.take_succ_cons, List.take_zero, List.drop_succ_cons, List.drop_zero]
  repeat still_step
  still_call (bit_any _ _)
  repeat still_step
  refine wpStill_nil ?_
  all_goals go_wp2
  all_goals go_end0
  all_goals refine ⟨rfl, v, ?_⟩
  all_goals rw [HST.out]
  all_goals exact ⟨(HF.out.1.alloc _).drew, (HF.out.2.alloc _).drew⟩
end

section
open Go.RowKit

set_option maxRecDepth 100000 in
set_option maxHeartbeats 3200000 in
theorem do_14 (w : World) (B sb : Nat) (P : Pg) (v : Rl → Value) (s : Sx) (A : Nat → Option Addr) (L C : Nat → Nat) (X : Nat → Nat → Nat → Int) (m lk rg t : Nat) (mv : Int) (_h0 : 0 ≤ mv) (_h1 : mv ≤ 1000) (hq : mv / 8 = t) (hr : mv % 8 = 0) (hx : Cx w B sb P v s A L C X m lk rg t) (hop : opT X s t 0 = 14) :
    Calls Tryd.prog 80 #[.pointer (some ⟨sb, 0, none⟩), .int .i64 mv] w (DoQ B sb P v w (orderX P.mode (stepS s t) t 14 (opT X s t 1) (opT X s t 2) (opT X s t 3))) := by
  obtain ⟨n, tb, tc, rb, rc, pc, ⟨htn, hn4, hpc4⟩, HPC, c5, HNX, HPRE⟩ := hx.pre
  have htl : t < s.ths.length := by have := hx.ho.ths; have := hx.ht; omega
  have hrl : (thOf s t).regs.length = rg := hx.ho.regs t hx.ht
  have hord := hx.hc.ord t (thOf s t).pc hx.ht hx.hlt
  have hsz := hx.hc.L4 t hx.ht
  have hrg2 := hx.hc.rg2
  change ordE rg m lk (L t) (opT X s t 0) (opT X s t 1) (opT X s t 2) (opT X s t 3) = 0 at hord
  rw [hop] at hord
  rw [hop] at HNX
  obtain ⟨a, ea⟩ : ∃ x, opT X s t 1 = x := ⟨_, rfl⟩
  obtain ⟨b, eb⟩ : ∃ x, opT X s t 2 = x := ⟨_, rfl⟩
  obtain ⟨c, ec⟩ : ∃ x, opT X s t 3 = x := ⟨_, rfl⟩
  rw [ea, eb, ec] at hord HNX ⊢
  clear ea eb ec
  obtain ⟨ia, rfl, ha⟩ := toN_le (ok_jump hord)
  have hwl : s.words.length = m := hx.ho.words
  have hol : s.own.length = lk := hx.ho.own
  have hm64 := hx.hc.m64
  have hlk4 := hx.hc.lk4
  have hw3 := hx.ho.wlen t hx.ht
  have hthn := hx.ho.ths
  have hpn4 := hx.hc.n4
  have hsl : (stepS s t).ths.length = s.ths.length := stepS_len s t
  have hsw : (thOf (stepS s t) t).wait.length ≤ 3 := by rw [stepS_wait htl]; exact hw3
  have HST : Hid (orderX P.mode (stepS s t) t 14 (ia : Int) b c = setTh s t { thOf s t with pc := ia }) := stepS_jump htl ia
  have HX := Hid.out (p := Hid _) hx
  clear hx hord hop hsz
  go_enter Tryd.func80, Tryd.ntmps80
  go_wp2_with fail
  refine Calls.mono HNX.out ?_
  rintro e w1 ⟨rfl, hb1⟩
  have HP := HPRE.out w1 hb1
  have d5 := HP.c5
  have dp := HP.cp
  have df := HP.cf
  have dr := HP.cr
  have nrt := HP.nrt
  have ntr := HP.ntr
  have lrb := HP.lrb
  have ltb := HP.ltb
  have e3 : setTh (stepS s t) t { thOf (stepS s t) t with pc := ia } = setTh s t { thOf s t with pc := ia } := stepS_jump htl _
  have HF : Hid (DSt (w1.setCell ⟨tb, t * 3, none⟩ (.int .i64 (ia : Int))) B P sb v (setTh s t { thOf s t with pc := ia }) ∧ Moved w (w1.setCell ⟨tb, t * 3, none⟩ (.int .i64 (ia : Int))) v v) := by
    have hs1 := HX.out.hs.below hb1
    exact ⟨hs1.setPc HP.btb htl ia, (Moved.of_below hb1).put HP.btb _ _⟩
  have HG : Hid (DSt ((w1.setCell ⟨tb, t * 3, none⟩ (.int .i64 ((pc : Int) + 1))).setCell ⟨tb, t * 3, none⟩ (.int .i64 (ia : Int))) B P sb v (setTh s t { thOf s t with pc := ia }) ∧ Moved w ((w1.setCell ⟨tb, t * 3, none⟩ (.int .i64 ((pc : Int) + 1))).setCell ⟨tb, t * 3, none⟩ (.int .i64 (ia : Int))) v v) := ⟨by rw [← e3]; exact HP.D.setPc HP.btb (by rw [hsl]; exact htl) ia, HP.M.put HP.btb _ _⟩
  clear HP HPRE HNX e3
  go_wp2
  all_goals go_end0
  all_goals refine ⟨rfl, v, ?_⟩
  all_goals rw [HST.out]
  all_goals first | exact ⟨DSt.same (HF.out.1.alloc _) rfl, Moved.same (HF.out.2.alloc _) rfl rfl rfl rfl⟩ | exact ⟨DSt.same (HG.out.1.alloc _) rfl, Moved.same (HG.out.2.alloc _) rfl rfl rfl rfl⟩

set_option maxRecDepth 100000 in
set_option maxHeartbeats 3200000 in
theorem do_15 (w : World) (B sb : Nat) (P : Pg) (v : Rl → Value) (s : Sx) (A : Nat → Option Addr) (L C : Nat → Nat) (X : Nat → Nat → Nat → Int) (m lk rg t : Nat) (mv : Int) (_h0 : 0 ≤ mv) (_h1 : mv ≤ 1000) (hq : mv / 8 = t) (hr : mv % 8 = 0) (hx : Cx w B sb P v s A L C X m lk rg t) (hop : opT X s t 0 = 15) :
    Calls Tryd.prog 80 #[.pointer (some ⟨sb, 0, none⟩), .int .i64 mv] w (DoQ B sb P v w (orderX P.mode (stepS s t) t 15 (opT X s t 1) (opT X s t 2) (opT X s t 3))) := by
  obtain ⟨n, tb, tc, rb, rc, pc, ⟨htn, hn4, hpc4⟩, HPC, c5, HNX, HPRE⟩ := hx.pre
  have htl : t < s.ths.length := by have := hx.ho.ths; have := hx.ht; omega
  have hrl : (thOf s t).regs.length = rg := hx.ho.regs t hx.ht
  have hord := hx.hc.ord t (thOf s t).pc hx.ht hx.hlt
  have hsz := hx.hc.L4 t hx.ht
  have hrg2 := hx.hc.rg2
  change ordE rg m lk (L t) (opT X s t 0) (opT X s t 1) (opT X s t 2) (opT X s t 3) = 0 at hord
  rw [hop] at hord
  rw [hop] at HNX
  obtain ⟨a, ea⟩ : ∃ x, opT X s t 1 = x := ⟨_, rfl⟩
  obtain ⟨b, eb⟩ : ∃ x, opT X s t 2 = x := ⟨_, rfl⟩
  obtain ⟨c, ec⟩ : ∃ x, opT X s t 3 = x := ⟨_, rfl⟩
  rw [ea, eb, ec] at hord HNX ⊢
  clear ea eb ec
  obtain ⟨⟨ia, rfl, ha⟩, ⟨ib, rfl, hb⟩⟩ := by
    have h3 := ok_zero hord
    exact (⟨toN h3.1, toN_le h3.2⟩ : _ ∧ _)
  have hwl : s.words.length = m := hx.ho.words
  have hol : s.own.length = lk := hx.ho.own
  have hm64 := hx.hc.m64
  have hlk4 := hx.hc.lk4
  have hw3 := hx.ho.wlen t hx.ht
  have hthn := hx.ho.ths
  have hpn4 := hx.hc.n4
  have hsl : (stepS s t).ths.length = s.ths.length := stepS_len s t
  have hsw : (thOf (stepS s t) t).wait.length ≤ 3 := by rw [stepS_wait htl]; exact hw3
  obtain ⟨Va, ea⟩ : ∃ x, getR s t (ia : Int) = x := ⟨_, rfl⟩
  have HVa : Hid (getR s t (ia : Int) = Va) := ea
  clear ea
  by_cases hz : Va = 0
  · subst hz
    have HST : Hid (orderX P.mode (stepS s t) t 15 (ia : Int) (ib : Int) c = setTh s t { thOf s t with pc := ib }) := by
      show (if getR (stepS s t) t (ia : Int) = 0 then setTh (stepS s t) t { thOf (stepS s t) t with pc := ib } else _) = _
      rw [stepS_getR htl, HVa.out, if_pos rfl]
      exact stepS_jump htl ib
    have HX := Hid.out (p := Hid _) hx
    clear hx hord hop hsz
    go_enter Tryd.func80, Tryd.ntmps80
    go_wp2_with fail
    refine Calls.mono HNX.out ?_
    rintro e w1 ⟨rfl, hb1⟩
    have HP := HPRE.out w1 hb1
    have d5 := HP.c5
    have dp := HP.cp
    have df := HP.cf
    have dr := HP.cr
    have nrt := HP.nrt
    have ntr := HP.ntr
    have lrb := HP.lrb
    have ltb := HP.ltb
    have wa := HP.regW htl (r := ia) (by omega)
    rw [HVa.out] at wa
    have e3 : setTh (stepS s t) t { thOf (stepS s t) t with pc := ib } = setTh s t { thOf s t with pc := ib } := stepS_jump htl _
    have HF : Hid (DSt (w1.setCell ⟨tb, t * 3, none⟩ (.int .i64 (ib : Int))) B P sb v (setTh s t { thOf s t with pc := ib }) ∧ Moved w (w1.setCell ⟨tb, t * 3, none⟩ (.int .i64 (ib : Int))) v v) := by
      have hs1 := HX.out.hs.below hb1
      exact ⟨hs1.setPc HP.btb htl ib, (Moved.of_below hb1).put HP.btb _ _⟩
    have HG : Hid (DSt ((w1.setCell ⟨tb, t * 3, none⟩ (.int .i64 ((pc : Int) + 1))).setCell ⟨tb, t * 3, none⟩ (.int .i64 (ib : Int))) B P sb v (setTh s t { thOf s t with pc := ib }) ∧ Moved w ((w1.setCell ⟨tb, t * 3, none⟩ (.int .i64 ((pc : Int) + 1))).setCell ⟨tb, t * 3, none⟩ (.int .i64 (ib : Int))) v v) := ⟨by rw [← e3]; exact HP.D.setPc HP.btb (by rw [hsl]; exact htl) ib, HP.M.put HP.btb _ _⟩
    clear HP HPRE HNX e3
    go_wp2
    all_goals go_end0
    all_goals refine ⟨rfl, v, ?_⟩
    all_goals rw [HST.out]
    all_goals first | exact ⟨DSt.same (HF.out.1.alloc _) rfl, Moved.same (HF.out.2.alloc _) rfl rfl rfl rfl⟩ | exact ⟨DSt.same (HG.out.1.alloc _) rfl, Moved.same (HG.out.2.alloc _) rfl rfl rfl rfl⟩
  · have HST : Hid (orderX P.mode (stepS s t) t 15 (ia : Int) (ib : Int) c = stepS s t) := by
      show (if getR (stepS s t) t (ia : Int) = 0 then _ else stepS s t) = _
      rw [stepS_getR htl, HVa.out, if_neg hz]
    have HX := Hid.out (p := Hid _) hx
    clear hx hord hop hsz
    go_enter Tryd.func80, Tryd.ntmps80
    go_wp2_with fail
    refine Calls.mono HNX.out ?_
    rintro e w1 ⟨rfl, hb1⟩
    have HP := HPRE.out w1 hb1
    have d5 := HP.c5
    have dp := HP.cp
    have df := HP.cf
    have dr := HP.cr
    have nrt := HP.nrt
    have ntr := HP.ntr
    have lrb := HP.lrb
    have ltb := HP.ltb
    have wa := HP.regW htl (r := ia) (by omega)
    rw [HVa.out] at wa
    have HF : Hid (DSt (w1.setCell ⟨tb, t * 3, none⟩ (.int .i64 ((pc : Int) + 1))) B P sb v (stepS s t) ∧ Moved w (w1.setCell ⟨tb, t * 3, none⟩ (.int .i64 ((pc : Int) + 1))) v v) := ⟨HP.D, HP.M⟩
    clear HP HPRE HNX
    go_wp2
    all_goals go_end0
    all_goals refine ⟨rfl, v, ?_⟩
    all_goals rw [HST.out]
    all_goals exact ⟨DSt.same (HF.out.1.alloc _) rfl, Moved.same (HF.out.2.alloc _) rfl rfl rfl rfl⟩
end

end Go.Proofs.YtocfocjnnjdcgaaDoor
