/-
  Moves of the document's run: the orders that a thread's registers alone have to do with.
  Moves of the document's run: the orders that a thread's registers alone have to do with.
-/
import Derived.Test.YtefnmbnakphhfadRDoP
namespace Go.Proofs.Ytefnmbnakphhfad
section
open Go.RowKit

set_option maxRecDepth 100000 in
set_option maxHeartbeats 3200000 in
theorem do_1 (w : World) (B sb : Nat) (P : Pg) (v : Rl → Value) (s : Sx) (A : Nat → Option Addr) (L C : Nat → Nat) (X : Nat → Nat → Nat → Int) (m lk rg t : Nat) (mv : Int) (_h0 : 0 ≤ mv) (_h1 : mv ≤ 1000) (hq : mv / 8 = t) (hr : mv % 8 = 0) (hx : Cx w B sb P v s A L C X m lk rg t) (hop : opT X s t 0 = 1) :
    Calls Try.prog 42 #[.pointer (some ⟨sb, 0, none⟩), .int .i64 mv] w (DoQ B sb P v w (orderX P.mode (stepS s t) t 1 (opT X s t 1) (opT X s t 2) (opT X s t 3))) := by
  obtain ⟨n, tb, tc, rb, rc, pc, ⟨htn, hn4, hpc4⟩, HPC, c5, HNX, HPRE⟩ := hx.pre
  have htl : t < s.ths.length := by have := hx.ho.ths; have := hx.ht; omega
  have hrl : (thOf s t).regs.length = rg := hx.ho.regs t hx.ht
  have hord := hx.hc.ord t (thOf s t).pc hx.ht hx.hlt
  have hsz := hx.hc.L4 t hx.ht
  have hrg2 := hx.hc.rg2
  change ordE rg m lk (L t) (opT X s t 0) (opT X s t 1) (opT X s t 2) (opT X s t 3) = 0 at hord
  rw [hop] at hord
  rw [hop] at HNX
  obtain ⟨a, ea⟩ : ∃ x, opT X s t 1 = x := ⟨_, rfl⟩
  obtain ⟨b, eb⟩ : ∃ x, opT X s t 2 = x := ⟨_, rfl⟩
  obtain ⟨c, ec⟩ : ∃ x, opT X s t 3 = x := ⟨_, rfl⟩
  rw [ea, eb, ec] at hord HNX ⊢
  clear ea eb ec
  obtain ⟨ia, rfl, ha⟩ := toN (ok_const hord)
  have HST : Hid (orderX P.mode (stepS s t) t 1 (ia : Int) b c = setR (stepS s t) t (ia : Int) (b)) := by
    show setR (stepS s t) t (ia : Int) _ = _
    rfl
  have HX := Hid.out (p := Hid _) hx
  clear hx hord hop hsz
  go_enter Try.func42, Try.ntmps42
  go_wp2_with fail
  refine Calls.mono HNX.out ?_
  rintro e w1 ⟨rfl, hb1⟩
  have HP := HPRE.out w1 hb1
  have d5 := HP.c5
  have dp := HP.cp
  have df := HP.cf
  have dr := HP.cr
  have nrt := HP.nrt
  have ntr := HP.ntr
  have lrb := HP.lrb
  have ltb := HP.ltb
  have fa := HP.frz ia
  have wa := HP.regW htl (r := ia) (by omega)
  obtain ⟨VA, eA⟩ : ∃ x, getR s t (ia : Int) = x := ⟨_, rfl⟩
  rw [eA] at wa
  clear eA
  have HF := Hid.out (p := Hid _) (HP.fin htl ia (b))
  clear HP HPRE HNX
  go_wp2
  go_end0
  refine ⟨rfl, v, ?_⟩
  rw [HST.out]
  exact ⟨HF.out.1.alloc _, HF.out.2.alloc _⟩

set_option maxRecDepth 100000 in
set_option maxHeartbeats 3200000 in
theorem do_2 (w : World) (B sb : Nat) (P : Pg) (v : Rl → Value) (s : Sx) (A : Nat → Option Addr) (L C : Nat → Nat) (X : Nat → Nat → Nat → Int) (m lk rg t : Nat) (mv : Int) (_h0 : 0 ≤ mv) (_h1 : mv ≤ 1000) (hq : mv / 8 = t) (hr : mv % 8 = 0) (hx : Cx w B sb P v s A L C X m lk rg t) (hop : opT X s t 0 = 2) :
    Calls Try.prog 42 #[.pointer (some ⟨sb, 0, none⟩), .int .i64 mv] w (DoQ B sb P v w (orderX P.mode (stepS s t) t 2 (opT X s t 1) (opT X s t 2) (opT X s t 3))) := by
  obtain ⟨n, tb, tc, rb, rc, pc, ⟨htn, hn4, hpc4⟩, HPC, c5, HNX, HPRE⟩ := hx.pre
  have htl : t < s.ths.length := by have := hx.ho.ths; have := hx.ht; omega
  have hrl : (thOf s t).regs.length = rg := hx.ho.regs t hx.ht
  have hord := hx.hc.ord t (thOf s t).pc hx.ht hx.hlt
  have hsz := hx.hc.L4 t hx.ht
  have hrg2 := hx.hc.rg2
  change ordE rg m lk (L t) (opT X s t 0) (opT X s t 1) (opT X s t 2) (opT X s t 3) = 0 at hord
  rw [hop] at hord
  rw [hop] at HNX
  obtain ⟨a, ea⟩ : ∃ x, opT X s t 1 = x := ⟨_, rfl⟩
  obtain ⟨b, eb⟩ : ∃ x, opT X s t 2 = x := ⟨_, rfl⟩
  obtain ⟨c, ec⟩ : ∃ x, opT X s t 3 = x := ⟨_, rfl⟩
  rw [ea, eb, ec] at hord HNX ⊢
  clear ea eb ec
  obtain ⟨⟨ia, rfl, ha⟩, ⟨ib, rfl, hb⟩⟩ := by
    have h3 := ok_rr (by omega) hord
    exact (⟨toN h3.1, toN h3.2⟩ : _ ∧ _)
  have HST : Hid (orderX P.mode (stepS s t) t 2 (ia : Int) (ib : Int) c = setR (stepS s t) t (ia : Int) (getR s t (ib : Int))) := by
    show setR (stepS s t) t (ia : Int) _ = _
    simp only [stepS_getR htl]
  obtain ⟨Vb, eb⟩ : ∃ x, getR s t (ib : Int) = x := ⟨_, rfl⟩
  have HVb : Hid (getR s t (ib : Int) = Vb) := eb
  rw [eb] at HST
  clear eb
  have HX := Hid.out (p := Hid _) hx
  clear hx hord hop hsz
  go_enter Try.func42, Try.ntmps42
  go_wp2_with fail
  refine Calls.mono HNX.out ?_
  rintro e w1 ⟨rfl, hb1⟩
  have HP := HPRE.out w1 hb1
  have d5 := HP.c5
  have dp := HP.cp
  have df := HP.cf
  have dr := HP.cr
  have nrt := HP.nrt
  have ntr := HP.ntr
  have lrb := HP.lrb
  have ltb := HP.ltb
  have fa := HP.frz ia
  have wa := HP.regW htl (r := ia) (by omega)
  have wb := HP.regW htl (r := ib) (by omega)
  rw [HVb.out] at wb
  obtain ⟨VA, eA⟩ : ∃ x, getR s t (ia : Int) = x := ⟨_, rfl⟩
  rw [eA] at wa
  clear eA
  have HF := Hid.out (p := Hid _) (HP.fin htl ia (Vb))
  clear HP HPRE HNX
  go_wp2
  refine region_tail 9 (by kernel_rfl) (by kernel_rfl) ?_
  simp only [List.take_succ_cons, List.take_zero, List.drop_succ_cons, List.drop_zero]
  repeat still_step
  refine wpStill_nil ?_
  all_goals go_wp2
  all_goals go_end0
  all_goals refine ⟨rfl, v, ?_⟩
  all_goals rw [HST.out]
  all_goals exact ⟨(HF.out.1.alloc _).drew, (HF.out.2.alloc _).drew⟩

set_option maxRecDepth 100000 in
set_option maxHeartbeats 3200000 in
theorem do_3 (w : World) (B sb : Nat) (P : Pg) (v : Rl → Value) (s : Sx) (A : Nat → Option Addr) (L C : Nat → Nat) (X : Nat → Nat → Nat → Int) (m lk rg t : Nat) (mv : Int) (_h0 : 0 ≤ mv) (_h1 : mv ≤ 1000) (hq : mv / 8 = t) (hr : mv % 8 = 0) (hx : Cx w B sb P v s A L C X m lk rg t) (hop : opT X s t 0 = 3) :
    Calls Try.prog 42 #[.pointer (some ⟨sb, 0, none⟩), .int .i64 mv] w (DoQ B sb P v w (orderX P.mode (stepS s t) t 3 (opT X s t 1) (opT X s t 2) (opT X s t 3))) := by
  obtain ⟨n, tb, tc, rb, rc, pc, ⟨htn, hn4, hpc4⟩, HPC, c5, HNX, HPRE⟩ := hx.pre
  have htl : t < s.ths.length := by have := hx.ho.ths; have := hx.ht; omega
  have hrl : (thOf s t).regs.length = rg := hx.ho.regs t hx.ht
  have hord := hx.hc.ord t (thOf s t).pc hx.ht hx.hlt
  have hsz := hx.hc.L4 t hx.ht
  have hrg2 := hx.hc.rg2
  change ordE rg m lk (L t) (opT X s t 0) (opT X s t 1) (opT X s t 2) (opT X s t 3) = 0 at hord
  rw [hop] at hord
  rw [hop] at HNX
  obtain ⟨a, ea⟩ : ∃ x, opT X s t 1 = x := ⟨_, rfl⟩
  obtain ⟨b, eb⟩ : ∃ x, opT X s t 2 = x := ⟨_, rfl⟩
  obtain ⟨c, ec⟩ : ∃ x, opT X s t 3 = x := ⟨_, rfl⟩
  rw [ea, eb, ec] at hord HNX ⊢
  clear ea eb ec
  obtain ⟨⟨ia, rfl, ha⟩, ⟨ib, rfl, hb⟩, ⟨ic, rfl, hc⟩⟩ := by
    have h3 := ok_rrr (by omega) hord
    exact (⟨toN h3.1, toN h3.2.1, toN h3.2.2⟩ : _ ∧ _ ∧ _)
  have HST : Hid (orderX P.mode (stepS s t) t 3 (ia : Int) (ib : Int) (ic : Int) = setR (stepS s t) t (ia : Int) (wrap64 (getR s t (ib : Int) + getR s t (ic : Int)))) := by
    show setR (stepS s t) t (ia : Int) _ = _
    simp only [stepS_getR htl, IntWalk.i64_left]
  obtain ⟨Vb, eb⟩ : ∃ x, getR s t (ib : Int) = x := ⟨_, rfl⟩
  have HVb : Hid (getR s t (ib : Int) = Vb) := eb
  obtain ⟨Vc, ec⟩ : ∃ x, getR s t (ic : Int) = x := ⟨_, rfl⟩
  have HVc : Hid (getR s t (ic : Int) = Vc) := ec
  rw [eb, ec] at HST
  clear eb ec
  have HX := Hid.out (p := Hid _) hx
  clear hx hord hop hsz
  go_enter Try.func42, Try.ntmps42
  go_wp2_with fail
  refine Calls.mono HNX.out ?_
  rintro e w1 ⟨rfl, hb1⟩
  have HP := HPRE.out w1 hb1
  have d5 := HP.c5
  have dp := HP.cp
  have df := HP.cf
  have dr := HP.cr
  have nrt := HP.nrt
  have ntr := HP.ntr
  have lrb := HP.lrb
  have ltb := HP.ltb
  have fa := HP.frz ia
  have wa := HP.regW htl (r := ia) (by omega)
  have wb := HP.regW htl (r := ib) (by omega)
  rw [HVb.out] at wb
  have wc := HP.regW htl (r := ic) (by omega)
  rw [HVc.out] at wc
  obtain ⟨VA, eA⟩ : ∃ x, getR s t (ia : Int) = x := ⟨_, rfl⟩
  rw [eA] at wa
  clear eA
  have HF := Hid.out (p := Hid _) (HP.fin htl ia (wrap64 (Vb + Vc)))
  clear HP HPRE HNX
  go_wp2
  refine region_tail 15 (by kernel_rfl) (by kernel_rfl) ?_
  simp only [List.take_succ_cons, List.take_zero, List.drop_succ_cons, List.drop_zero]
  repeat still_step
  refine wpStill_nil ?_
  all_goals go_wp2
  all_goals go_end0
  all_goals refine ⟨rfl, v, ?_⟩
  all_goals rw [HST.out]
  all_goals exact ⟨(HF.out.1.alloc _).drew, (HF.out.2.alloc _).drew⟩

set_option maxRecDepth 100000 in
set_option maxHeartbeats 3200000 in
theorem do_4 (w : World) (B sb : Nat) (P : Pg) (v : Rl → Value) (s : Sx) (A : Nat → Option Addr) (L C : Nat → Nat) (X : Nat → Nat → Nat → Int) (m lk rg t : Nat) (mv : Int) (_h0 : 0 ≤ mv) (_h1 : mv ≤ 1000) (hq : mv / 8 = t) (hr : mv % 8 = 0) (hx : Cx w B sb P v s A L C X m lk rg t) (hop : opT X s t 0 = 4) :
    Calls Try.prog 42 #[.pointer (some ⟨sb, 0, none⟩), .int .i64 mv] w (DoQ B sb P v w (orderX P.mode (stepS s t) t 4 (opT X s t 1) (opT X s t 2) (opT X s t 3))) := by
  obtain ⟨n, tb, tc, rb, rc, pc, ⟨htn, hn4, hpc4⟩, HPC, c5, HNX, HPRE⟩ := hx.pre
  have htl : t < s.ths.length := by have := hx.ho.ths; have := hx.ht; omega
  have hrl : (thOf s t).regs.length = rg := hx.ho.regs t hx.ht
  have hord := hx.hc.ord t (thOf s t).pc hx.ht hx.hlt
  have hsz := hx.hc.L4 t hx.ht
  have hrg2 := hx.hc.rg2
  change ordE rg m lk (L t) (opT X s t 0) (opT X s t 1) (opT X s t 2) (opT X s t 3) = 0 at hord
  rw [hop] at hord
  rw [hop] at HNX
  obtain ⟨a, ea⟩ : ∃ x, opT X s t 1 = x := ⟨_, rfl⟩
  obtain ⟨b, eb⟩ : ∃ x, opT X s t 2 = x := ⟨_, rfl⟩
  obtain ⟨c, ec⟩ : ∃ x, opT X s t 3 = x := ⟨_, rfl⟩
  rw [ea, eb, ec] at hord HNX ⊢
  clear ea eb ec
  obtain ⟨⟨ia, rfl, ha⟩, ⟨ib, rfl, hb⟩, ⟨ic, rfl, hc⟩⟩ := by
    have h3 := ok_rrr (by omega) hord
    exact (⟨toN h3.1, toN h3.2.1, toN h3.2.2⟩ : _ ∧ _ ∧ _)
  have HST : Hid (orderX P.mode (stepS s t) t 4 (ia : Int) (ib : Int) (ic : Int) = setR (stepS s t) t (ia : Int) (wrap64 (getR s t (ib : Int) - getR s t (ic : Int)))) := by
    show setR (stepS s t) t (ia : Int) _ = _
    simp only [stepS_getR htl, IntWalk.i64_left]
  obtain ⟨Vb, eb⟩ : ∃ x, getR s t (ib : Int) = x := ⟨_, rfl⟩
  have HVb : Hid (getR s t (ib : Int) = Vb) := eb
  obtain ⟨Vc, ec⟩ : ∃ x, getR s t (ic : Int) = x := ⟨_, rfl⟩
  have HVc : Hid (getR s t (ic : Int) = Vc) := ec
  rw [eb, ec] at HST
  clear eb ec
  have HX := Hid.out (p := Hid _) hx
  clear hx hord hop hsz
  go_enter Try.func42, Try.ntmps42
  go_wp2_with fail
  refine Calls.mono HNX.out ?_
  rintro e w1 ⟨rfl, hb1⟩
  have HP := HPRE.out w1 hb1
  have d5 := HP.c5
  have dp := HP.cp
  have df := HP.cf
  have dr := HP.cr
  have nrt := HP.nrt
  have ntr := HP.ntr
  have lrb := HP.lrb
  have ltb := HP.ltb
  have fa := HP.frz ia
  have wa := HP.regW htl (r := ia) (by omega)
  have wb := HP.regW htl (r := ib) (by omega)
  rw [HVb.out] at wb
  have wc := HP.regW htl (r := ic) (by omega)
  rw [HVc.out] at wc
  obtain ⟨VA, eA⟩ : ∃ x, getR s t (ia : Int) = x := ⟨_, rfl⟩
  rw [eA] at wa
  clear eA
  have HF := Hid.out (p := Hid _) (HP.fin htl ia (wrap64 (Vb - Vc)))
  clear HP HPRE HNX
  go_wp2
  refine region_tail 15 (by kernel_rfl) (by kernel_rfl) ?_
  simp only [List.take_succ_cons, List.take_zero, List.drop_succ_cons, List.drop_zero]
  repeat still_step
  refine wpStill_nil ?_
  all_goals go_wp2
  all_goals go_end0
  all_goals refine ⟨rfl, v, ?_⟩
  all_goals rw [HST.out]
  all_goals exact ⟨(HF.out.1.alloc _).drew, (HF.out.2.alloc _).drew⟩
end

section
open Go.RowKit

set_option maxRecDepth 100000 in
set_option maxHeartbeats 3200000 in
theorem do_5 (w : World) (B sb : Nat) (P : Pg) (v : Rl → Value) (s : Sx) (A : Nat → Option Addr) (L C : Nat → Nat) (X : Nat → Nat → Nat → Int) (m lk rg t : Nat) (mv : Int) (_h0 : 0 ≤ mv) (_h1 : mv ≤ 1000) (hq : mv / 8 = t) (hr : mv % 8 = 0) (hx : Cx w B sb P v s A L C X m lk rg t) (hop : opT X s t 0 = 5) :
    Calls Try.prog 42 #[.pointer (some ⟨sb, 0, none⟩), .int .i64 mv] w (DoQ B sb P v w (orderX P.mode (stepS s t) t 5 (opT X s t 1) (opT X s t 2) (opT X s t 3))) := by
  obtain ⟨n, tb, tc, rb, rc, pc, ⟨htn, hn4, hpc4⟩, HPC, c5, HNX, HPRE⟩ := hx.pre
  have htl : t < s.ths.length := by have := hx.ho.ths; have := hx.ht; omega
  have hrl : (thOf s t).regs.length = rg := hx.ho.regs t hx.ht
  have hord := hx.hc.ord t (thOf s t).pc hx.ht hx.hlt
  have hsz := hx.hc.L4 t hx.ht
  have hrg2 := hx.hc.rg2
  change ordE rg m lk (L t) (opT X s t 0) (opT X s t 1) (opT X s t 2) (opT X s t 3) = 0 at hord
  rw [hop] at hord
  rw [hop] at HNX
  obtain ⟨a, ea⟩ : ∃ x, opT X s t 1 = x := ⟨_, rfl⟩
  obtain ⟨b, eb⟩ : ∃ x, opT X s t 2 = x := ⟨_, rfl⟩
  obtain ⟨c, ec⟩ : ∃ x, opT X s t 3 = x := ⟨_, rfl⟩
  rw [ea, eb, ec] at hord HNX ⊢
  clear ea eb ec
  obtain ⟨⟨ia, rfl, ha⟩, ⟨ib, rfl, hb⟩, ⟨ic, rfl, hc⟩⟩ := by
    have h3 := ok_rrr (by omega) hord
    exact (⟨toN h3.1, toN h3.2.1, toN h3.2.2⟩ : _ ∧ _ ∧ _)
  have HST : Hid (orderX P.mode (stepS s t) t 5 (ia : Int) (ib : Int) (ic : Int) = setR (stepS s t) t (ia : Int) (wrap64 (getR s t (ib : Int) * getR s t (ic : Int)))) := by
    show setR (stepS s t) t (ia : Int) _ = _
    simp only [stepS_getR htl, IntWalk.i64_left]
  obtain ⟨Vb, eb⟩ : ∃ x, getR s t (ib : Int) = x := ⟨_, rfl⟩
  have HVb : Hid (getR s t (ib : Int) = Vb) := eb
  obtain ⟨Vc, ec⟩ : ∃ x, getR s t (ic : Int) = x := ⟨_, rfl⟩
  have HVc : Hid (getR s t (ic : Int) = Vc) := ec
  rw [eb, ec] at HST
  clear eb ec
  have HX := Hid.out (p := Hid _) hx
  clear hx hord hop hsz
  go_enter Try.func42, Try.ntmps42
  go_wp2_with fail
  refine Calls.mono HNX.out ?_
  rintro e w1 ⟨rfl, hb1⟩
  have HP := HPRE.out w1 hb1
  have d5 := HP.c5
  have dp := HP.cp
  have df := HP.cf
  have dr := HP.cr
  have nrt := HP.nrt
  have ntr := HP.ntr
  have lrb := HP.lrb
  have ltb := HP.ltb
  have fa := HP.frz ia
  have wa := HP.regW htl (r := ia) (by omega)
  have wb := HP.regW htl (r := ib) (by omega)
  rw [HVb.out] at wb
  have wc := HP.regW htl (r := ic) (by omega)
  rw [HVc.out] at wc
  obtain ⟨VA, eA⟩ : ∃ x, getR s t (ia : Int) = x := ⟨_, rfl⟩
  rw [eA] at wa
  clear eA
  have HF := Hid.out (p := Hid _) (HP.fin htl ia (wrap64 (Vb * Vc)))
  clear HP HPRE HNX
  go_wp2
  refine region_tail 15 (by kernel_rfl) (by kernel_rfl) ?_
  simp only [List.take_succ_cons, List.take_zero, List.drop_succ_cons, List.drop_zero]
  repeat still_step
  refine wpStill_nil ?_
  all_goals go_wp2
  all_goals go_end0
  all_goals refine ⟨rfl, v, ?_⟩
  all_goals rw [HST.out]
  all_goals exact ⟨(HF.out.1.alloc _).drew, (HF.out.2.alloc _).drew⟩

set_option maxRecDepth 100000 in
set_option maxHeartbeats 3200000 in
theorem do_6 (w : World) (B sb : Nat) (P : Pg) (v : Rl → Value) (s : Sx) (A : Nat → Option Addr) (L C : Nat → Nat) (X : Nat → Nat → Nat → Int) (m lk rg t : Nat) (mv : Int) (_h0 : 0 ≤ mv) (_h1 : mv ≤ 1000) (hq : mv / 8 = t) (hr : mv % 8 = 0) (hx : Cx w B sb P v s A L C X m lk rg t) (hop : opT X s t 0 = 6) :
    Calls Try.prog 42 #[.pointer (some ⟨sb, 0, none⟩), .int .i64 mv] w (DoQ B sb P v w (orderX P.mode (stepS s t) t 6 (opT X s t 1) (opT X s t 2) (opT X s t 3))) := by
  obtain ⟨n, tb, tc, rb, rc, pc, ⟨htn, hn4, hpc4⟩, HPC, c5, HNX, HPRE⟩ := hx.pre
  have htl : t < s.ths.length := by have := hx.ho.ths; have := hx.ht; omega
  have hrl : (thOf s t).regs.length = rg := hx.ho.regs t hx.ht
  have hord := hx.hc.ord t (thOf s t).pc hx.ht hx.hlt
  have hsz := hx.hc.L4 t hx.ht
  have hrg2 := hx.hc.rg2
  change ordE rg m lk (L t) (opT X s t 0) (opT X s t 1) (opT X s t 2) (opT X s t 3) = 0 at hord
  rw [hop] at hord
  rw [hop] at HNX
  obtain ⟨a, ea⟩ : ∃ x, opT X s t 1 = x := ⟨_, rfl⟩
  obtain ⟨b, eb⟩ : ∃ x, opT X s t 2 = x := ⟨_, rfl⟩
  obtain ⟨c, ec⟩ : ∃ x, opT X s t 3 = x := ⟨_, rfl⟩
  rw [ea, eb, ec] at hord HNX ⊢
  clear ea eb ec
  obtain ⟨⟨ia, rfl, ha⟩, ⟨ib, rfl, hb⟩, ⟨ic, rfl, hc⟩⟩ := by
    have h3 := ok_rrr (by omega) hord
    exact (⟨toN h3.1, toN h3.2.1, toN h3.2.2⟩ : _ ∧ _ ∧ _)
  have HST : Hid (orderX P.mode (stepS s t) t 6 (ia : Int) (ib : Int) (ic : Int) = setR (stepS s t) t (ia : Int) (bitI (decide (getR s t (ib : Int) < getR s t (ic : Int))))) := by
    show setR (stepS s t) t (ia : Int) _ = _
    simp only [stepS_getR htl]
  obtain ⟨Vb, eb⟩ : ∃ x, getR s t (ib : Int) = x := ⟨_, rfl⟩
  have HVb : Hid (getR s t (ib : Int) = Vb) := eb
  obtain ⟨Vc, ec⟩ : ∃ x, getR s t (ic : Int) = x := ⟨_, rfl⟩
  have HVc : Hid (getR s t (ic : Int) = Vc) := ec
  rw [eb, ec] at HST
  clear eb ec
  have HX := Hid.out (p := Hid _) hx
  clear hx hord hop hsz
  go_enter Try.func42, Try.ntmps42
  go_wp2_with fail
  refine Calls.mono HNX.out ?_
  rintro e w1 ⟨rfl, hb1⟩
  have HP := HPRE.out w1 hb1
  have d5 := HP.c5
  have dp := HP.cp
  have df := HP.cf
  have dr := HP.cr
  have nrt := HP.nrt
  have ntr := HP.ntr
  have lrb := HP.lrb
  have ltb := HP.ltb
  have fa := HP.frz ia
  have wa := HP.regW htl (r := ia) (by omega)
  have wb := HP.regW htl (r := ib) (by omega)
  rw [HVb.out] at wb
  have wc := HP.regW htl (r := ic) (by omega)
  rw [HVc.out] at wc
  obtain ⟨VA, eA⟩ : ∃ x, getR s t (ia : Int) = x := ⟨_, rfl⟩
  rw [eA] at wa
  clear eA
  have HF := Hid.out (p := Hid _) (HP.fin htl ia (bitI (decide (Vb < Vc))))
  clear HP HPRE HNX
  go_wp2
  refine region_tail 16 (by kernel_rfl) (by kernel_rfl) ?_
  simp only [List.take_succ_cons, List.take_zero, List.drop_succ_cons, List.drop_zero]
  repeat still_step
  still_call (bit_any _ _)
  repeat still_step
  refine wpStill_nil ?_
  all_goals go_wp2
  all_goals go_end0
  all_goals refine ⟨rfl, v, ?_⟩
  all_goals rw [HST.out]
  all_goals exact ⟨(HF.out.1.alloc _).drew, (HF.out.2.alloc _).drew⟩

set_option maxRecDepth 100000 in
set_option maxHeartbeats 3200000 in
theorem do_7 (w : World) (B sb : Nat) (P : Pg) (v : Rl → Value) (s : Sx) (A : Nat → Option Addr) (L C : Nat → Nat) (X : Nat → Nat → Nat → Int) (m lk rg t : Nat) (mv : Int) (_h0 : 0 ≤ mv) (_h1 : mv ≤ 1000) (hq : mv / 8 = t) (hr : mv % 8 = 0) (hx : Cx w B sb P v s A L C X m lk rg t) (hop : opT X s t 0 = 7) :
    Calls Try.prog 42 #[.pointer (some ⟨sb, 0, none⟩), .int .i64 mv] w (DoQ B sb P v w (orderX P.mode (stepS s t) t 7 (opT X s t 1) (opT X s t 2) (opT X s t 3))) := by
  obtain ⟨n, tb, tc, rb, rc, pc, ⟨htn, hn4, hpc4⟩, HPC, c5, HNX, HPRE⟩ := hx.pre
  have htl : t < s.ths.length := by have := hx.ho.ths; have := hx.ht; omega
  have hrl : (thOf s t).regs.length = rg := hx.ho.regs t hx.ht
  have hord := hx.hc.ord t (thOf s t).pc hx.ht hx.hlt
  have hsz := hx.hc.L4 t hx.ht
  have hrg2 := hx.hc.rg2
  change ordE rg m lk (L t) (opT X s t 0) (opT X s t 1) (opT X s t 2) (opT X s t 3) = 0 at hord
  rw [hop] at hord
  rw [hop] at HNX
  obtain ⟨a, ea⟩ : ∃ x, opT X s t 1 = x := ⟨_, rfl⟩
  obtain ⟨b, eb⟩ : ∃ x, opT X s t 2 = x := ⟨_, rfl⟩
  obtain ⟨c, ec⟩ : ∃ x, opT X s t 3 = x := ⟨_, rfl⟩
  rw [ea, eb, ec] at hord HNX ⊢
  clear ea eb ec
  obtain ⟨⟨ia, rfl, ha⟩, ⟨ib, rfl, hb⟩, ⟨ic, rfl, hc⟩⟩ := by
    have h3 := ok_rrr (by omega) hord
    exact (⟨toN h3.1, toN h3.2.1, toN h3.2.2⟩ : _ ∧ _ ∧ _)
  have HST : Hid (orderX P.mode (stepS s t) t 7 (ia : Int) (ib : Int) (ic : Int) = setR (stepS s t) t (ia : Int) (bitI (decide (getR s t (ib : Int) = getR s t (ic : Int))))) := by
    show setR (stepS s t) t (ia : Int) _ = _
    simp only [stepS_getR htl]
  obtain ⟨Vb, eb⟩ : ∃ x, getR s t (ib : Int) = x := ⟨_, rfl⟩
  have HVb : Hid (getR s t (ib : Int) = Vb) := eb
  obtain ⟨Vc, ec⟩ : ∃ x, getR s t (ic : Int) = x := ⟨_, rfl⟩
  have HVc : Hid (getR s t (ic : Int) = Vc) := ec
  rw [eb, ec] at HST
  clear eb ec
  have HX := Hid.out (p := Hid _) hx
  clear hx hord hop hsz
  go_enter Try.func42, Try.ntmps42
  go_wp2_with fail
  refine Calls.mono HNX.out ?_
  rintro e w1 ⟨rfl, hb1⟩
  have HP := HPRE.out w1 hb1
  have d5 := HP.c5
  have dp := HP.cp
  have df := HP.cf
  have dr := HP.cr
  have nrt := HP.nrt
  have ntr := HP.ntr
  have lrb := HP.lrb
  have ltb := HP.ltb
  have fa := HP.frz ia
  have wa := HP.regW htl (r := ia) (by omega)
  have wb := HP.regW htl (r := ib) (by omega)
  rw [HVb.out] at wb
  have wc := HP.regW htl (r := ic) (by omega)
  rw [HVc.out] at wc
  obtain ⟨VA, eA⟩ : ∃ x, getR s t (ia : Int) = x := ⟨_, rfl⟩
  rw [eA] at wa
  clear eA
  have HF := Hid.out (p := Hid _) (HP.fin htl ia (bitI (decide (Vb = Vc))))
  clear HP HPRE HNX
  go_wp2
  refine region_tail 16 (by kernel_rfl) (by kernel_rfl) ?_
  simp only [List.take_succ_cons, List.take_zero, List.drop_succ_cons, List.drop_zero]
  repeat still_step
  still_call (bit_any _ _)
  repeat still_step
  refine wpStill_nil ?_
  all_goals go_wp2
  all_goals go_end0
  all_goals refine ⟨rfl, v, ?_⟩
  all_goals rw [HST.out]
  all_goals exact ⟨(HF.out.1.alloc _).drew, (HF.out.2.alloc _).drew⟩
end

end Go.Proofs.Ytefnmbnakphhfad
