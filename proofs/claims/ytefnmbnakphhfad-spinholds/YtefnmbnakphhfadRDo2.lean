/-
  Moves of the document's run: x.
-/
import Derived.Test.YtefnmbnakphhfadRDoP
namespace Go.Proofs.Ytefnmbnakphhfad
open Go.RowKit

set_option maxRecDepth 100000 in
set_option maxHeartbeats 3200000 in
theorem do_8 (w : World) (B sb : Nat) (P : Pg) (v : Rl → Value) (s : Sx) (A : Nat → Option Addr) (L C : Nat → Nat) (X : Nat → Nat → Nat → Int) (m lk rg t : Nat) (mv : Int) (_h0 : 0 ≤ mv) (_h1 : mv ≤ 1000) (hq : mv / 8 = t) (hr : mv % 8 = 0) (hx : Cx w B sb P v s A L C X m lk rg t) (hop : opT X s t 0 = 8) :
    Calls Try.prog 42 #[.pointer (some ⟨sb, 0, none⟩), .int .i64 mv] w (DoQ B sb P v w (orderX P.mode (stepS s t) t 8 (opT X s t 1) (opT X s t 2) (opT X s t 3))) := by
  obtain ⟨n, tb, tc, rb, rc, pc, ⟨htn, hn4, hpc4⟩, HPC, c5, HNX, HPRE⟩ := hx.pre
  have htl : t < s.ths.length := by have := hx.ho.ths; have := hx.ht; omega
  have hrl : (thOf s t).regs.length = rg := hx.ho.regs t hx.ht
  have hord := hx.hc.ord t (thOf s t).pc hx.ht hx.hlt
  have hsz := hx.hc.L4 t hx.ht
  have hrg2 := hx.hc.rg2
  change ordE rg m lk (L t) (opT X s t 0) (opT X s t 1) (opT X s t 2) (opT X s t 3) = 0 at hord
  rw [hop] at hord
  rw [hop] at HNX
  obtain ⟨a, ea⟩ : ∃ x, opT X s t 1 = x := ⟨_, rfl⟩
  obtain ⟨b, eb⟩ : ∃ x, opT X s t 2 = x := ⟨_, rfl⟩
  obtain ⟨c, ec⟩ : ∃ x, opT X s t 3 = x := ⟨_, rfl⟩
  rw [ea, eb, ec] at hord HNX ⊢
  clear ea eb ec
  obtain ⟨⟨ia, rfl, ha⟩, ⟨ib, rfl, hb⟩⟩ := by
    have h3 := ok_load hord
    exact (⟨toN h3.1, toN h3.2⟩ : _ ∧ _)
  have hwl : s.words.length = m := hx.ho.words
  have hol : s.own.length = lk := hx.ho.own
  have hm64 := hx.hc.m64
  have hlk4 := hx.hc.lk4
  have hw3 := hx.ho.wlen t hx.ht
  have hthn := hx.ho.ths
  have hpn4 := hx.hc.n4
  have hsl : (stepS s t).ths.length = s.ths.length := stepS_len s t
  have hsw : (thOf (stepS s t) t).wait.length ≤ 3 := by rw [stepS_wait htl]; exact hw3
  have HST : Hid (orderX P.mode (stepS s t) t 8 (ia : Int) (ib : Int) c = setR (stepS s t) t (ia : Int) (findsW s t (ib : Int))) := by
    show setR (stepS s t) t (ia : Int) _ = _
    simp only [stepS_finds htl]
  have HX := Hid.out (p := Hid _) hx
  clear hx hord hop hsz
  go_enter Try.func42, Try.ntmps42
  go_wp2_with fail
  refine Calls.mono HNX.out ?_
  rintro e w1 ⟨rfl, hb1⟩
  have HP := HPRE.out w1 hb1
  have d5 := HP.c5
  have dp := HP.cp
  have df := HP.cf
  have dr := HP.cr
  have nrt := HP.nrt
  have ntr := HP.ntr
  have lrb := HP.lrb
  have ltb := HP.ltb
  have fa := HP.frz ia
  have wa := HP.regW htl (r := ia) (by omega)
  obtain ⟨VA, eA⟩ : ∃ x, getR s t (ia : Int) = x := ⟨_, rfl⟩
  rw [eA] at wa
  clear eA
  have HF := Hid.out (p := Hid _) (HP.fin htl ia (findsW s t (ib : Int)))
  have HC : Hid (∀ o, Calls Try.prog 54 #[.pointer (some ⟨sb, 0, none⟩), .int .i64 t, .int .i64 (ib : Int)] ((w1.setCell ⟨tb, t * 3, none⟩ (.int .i64 ((pc : Int) + 1))).alloc o).drew fun e w' => e = .returned (.int .i64 (findsW s t (ib : Int))) ∧ w' = ((w1.setCell ⟨tb, t * 3, none⟩ (.int .i64 ((pc : Int) + 1))).alloc o).drew) := fun o => by
    have := finds_D _ B sb P v (stepS s t) t ib ((HP.D.alloc o).drew) (by rw [hsl]; exact htl) (by rw [hsl]; omega) (by show ib < s.words.length; omega) (by show s.words.length ≤ 64; omega) hsw
    rwa [stepS_finds htl] at this
  clear HP HPRE HNX
  go_wp2
  refine region_tail 9 (by kernel_rfl) (by kernel_rfl) ?_
  simp only [List.take_succ_cons, List.take_zero, List.drop_succ_cons, List.drop_zero]
  repeat still_step
  still_call (HC.out _)
  repeat still_step
  refine wpStill_nil ?_
  go_wp2
  all_goals go_end0
  all_goals refine ⟨rfl, v, ?_⟩
  all_goals rw [HST.out]
  all_goals exact ⟨DSt.same (HF.out.1.alloc _) rfl, Moved.same (HF.out.2.alloc _) rfl rfl rfl rfl⟩

set_option maxRecDepth 100000 in
set_option maxHeartbeats 3200000 in
theorem do_9 (w : World) (B sb : Nat) (P : Pg) (v : Rl → Value) (s : Sx) (A : Nat → Option Addr) (L C : Nat → Nat) (X : Nat → Nat → Nat → Int) (m lk rg t : Nat) (mv : Int) (_h0 : 0 ≤ mv) (_h1 : mv ≤ 1000) (hq : mv / 8 = t) (hr : mv % 8 = 0) (hx : Cx w B sb P v s A L C X m lk rg t) (hop : opT X s t 0 = 9) :
    Calls Try.prog 42 #[.pointer (some ⟨sb, 0, none⟩), .int .i64 mv] w (DoQ B sb P v w (orderX P.mode (stepS s t) t 9 (opT X s t 1) (opT X s t 2) (opT X s t 3))) := by
  obtain ⟨n, tb, tc, rb, rc, pc, ⟨htn, hn4, hpc4⟩, HPC, c5, HNX, HPRE⟩ := hx.pre
  have htl : t < s.ths.length := by have := hx.ho.ths; have := hx.ht; omega
  have hrl : (thOf s t).regs.length = rg := hx.ho.regs t hx.ht
  have hord := hx.hc.ord t (thOf s t).pc hx.ht hx.hlt
  have hsz := hx.hc.L4 t hx.ht
  have hrg2 := hx.hc.rg2
  change ordE rg m lk (L t) (opT X s t 0) (opT X s t 1) (opT X s t 2) (opT X s t 3) = 0 at hord
  rw [hop] at hord
  rw [hop] at HNX
  obtain ⟨a, ea⟩ : ∃ x, opT X s t 1 = x := ⟨_, rfl⟩
  obtain ⟨b, eb⟩ : ∃ x, opT X s t 2 = x := ⟨_, rfl⟩
  obtain ⟨c, ec⟩ : ∃ x, opT X s t 3 = x := ⟨_, rfl⟩
  rw [ea, eb, ec] at hord HNX ⊢
  clear ea eb ec
  obtain ⟨⟨ia, rfl, ha⟩, ⟨ib, rfl, hb⟩⟩ := by
    have h3 := ok_store hord
    exact (⟨toN h3.1, toN h3.2⟩ : _ ∧ _)
  have hwl : s.words.length = m := hx.ho.words
  have hol : s.own.length = lk := hx.ho.own
  have hm64 := hx.hc.m64
  have hlk4 := hx.hc.lk4
  have hw3 := hx.ho.wlen t hx.ht
  have hthn := hx.ho.ths
  have hpn4 := hx.hc.n4
  have hsl : (stepS s t).ths.length = s.ths.length := stepS_len s t
  have hsw : (thOf (stepS s t) t).wait.length ≤ 3 := by rw [stepS_wait htl]; exact hw3
  obtain ⟨Vb, eb⟩ : ∃ x, getR s t (ib : Int) = x := ⟨_, rfl⟩
  have HVb : Hid (getR s t (ib : Int) = Vb) := eb
  have HST : Hid (orderX P.mode (stepS s t) t 9 (ia : Int) (ib : Int) c = storeW P.mode (stepS s t) t ⟨false, (ia : Int), Vb⟩) := by
    show storeW P.mode (stepS s t) t ⟨false, (ia : Int), _⟩ = _
    rw [stepS_getR htl, eb]
  clear eb
  have hmode := hx.hm
  have hBw := hx.hB
  have HX := Hid.out (p := Hid _) hx
  clear hx hord hop hsz
  go_enter Try.func42, Try.ntmps42
  go_wp2_with fail
  refine Calls.mono HNX.out ?_
  rintro e w1 ⟨rfl, hb1⟩
  have HP := HPRE.out w1 hb1
  have d5 := HP.c5
  have dp := HP.cp
  have df := HP.cf
  have dr := HP.cr
  have nrt := HP.nrt
  have ntr := HP.ntr
  have lrb := HP.lrb
  have ltb := HP.ltb
  have wb := HP.regW htl (r := ib) (by omega)
  rw [HVb.out] at wb
  have HC : Hid (∀ o, Calls Try.prog 55 #[.pointer (some ⟨sb, 0, none⟩), .int .i64 t, .agg #[.bool false, .int .i64 (ia : Int), .int .i64 Vb]] ((w1.setCell ⟨tb, t * 3, none⟩ (.int .i64 ((pc : Int) + 1))).alloc o).drew fun e w' => e = .returned (.tuple #[]) ∧ ∃ v', DSt w' B P sb v' (storeW P.mode (stepS s t) t ⟨false, (ia : Int), Vb⟩) ∧ Moved w w' v v') := fun o =>
    (store_any _ B sb P v (stepS s t) t ⟨false, (ia : Int), Vb⟩ ((HP.D.alloc o).drew) (by have := (HP.M.alloc o).size; simp at this ⊢; omega) hmode (by rw [hsl]; exact htl) (by rw [hsl]; omega) hsw (by show (0 : Int) ≤ (ia : Int); omega) (by show (ia : Int) < ((s.words.length : Nat) : Int); omega) (by show s.words.length ≤ 64; omega) (by show s.own.length ≤ 4; omega)).mono fun e w' ⟨h1, v', h2, h3⟩ => ⟨h1, v', h2, ((HP.M.alloc o).drew).trans h3⟩
  clear HP HPRE HNX
  go_wp2
  refine region_tail 10 (by kernel_rfl) (by kernel_rfl) ?_
  simp only [List.take_succ_cons, List.take_zero, List.drop_succ_cons, List.drop_zero]
  repeat still_step
  refine wpStill_nil ?_
  go_wp2_with fail
  refine Calls.mono (HC.out _) ?_
  rintro e w2 ⟨rfl, v2, hD2, hM2⟩
  go_wp2_with fail
  go_end0
  refine ⟨rfl, v2, ?_⟩
  rw [HST.out]
  exact ⟨hD2, hM2⟩

set_option maxRecDepth 100000 in
set_option maxHeartbeats 3200000 in
theorem do_12 (w : World) (B sb : Nat) (P : Pg) (v : Rl → Value) (s : Sx) (A : Nat → Option Addr) (L C : Nat → Nat) (X : Nat → Nat → Nat → Int) (m lk rg t : Nat) (mv : Int) (_h0 : 0 ≤ mv) (_h1 : mv ≤ 1000) (hq : mv / 8 = t) (hr : mv % 8 = 0) (hx : Cx w B sb P v s A L C X m lk rg t) (hop : opT X s t 0 = 12) :
    Calls Try.prog 42 #[.pointer (some ⟨sb, 0, none⟩), .int .i64 mv] w (DoQ B sb P v w (orderX P.mode (stepS s t) t 12 (opT X s t 1) (opT X s t 2) (opT X s t 3))) := by
  obtain ⟨n, tb, tc, rb, rc, pc, ⟨htn, hn4, hpc4⟩, HPC, c5, HNX, HPRE⟩ := hx.pre
  have htl : t < s.ths.length := by have := hx.ho.ths; have := hx.ht; omega
  have hrl : (thOf s t).regs.length = rg := hx.ho.regs t hx.ht
  have hord := hx.hc.ord t (thOf s t).pc hx.ht hx.hlt
  have hsz := hx.hc.L4 t hx.ht
  have hrg2 := hx.hc.rg2
  change ordE rg m lk (L t) (opT X s t 0) (opT X s t 1) (opT X s t 2) (opT X s t 3) = 0 at hord
  rw [hop] at hord
  rw [hop] at HNX
  obtain ⟨a, ea⟩ : ∃ x, opT X s t 1 = x := ⟨_, rfl⟩
  obtain ⟨b, eb⟩ : ∃ x, opT X s t 2 = x := ⟨_, rfl⟩
  obtain ⟨c, ec⟩ : ∃ x, opT X s t 3 = x := ⟨_, rfl⟩
  rw [ea, eb, ec] at hord HNX ⊢
  clear ea eb ec
  have hwl : s.words.length = m := hx.ho.words
  have hol : s.own.length = lk := hx.ho.own
  have hm64 := hx.hc.m64
  have hlk4 := hx.hc.lk4
  have hw3 := hx.ho.wlen t hx.ht
  have hthn := hx.ho.ths
  have hpn4 := hx.hc.n4
  have hsl : (stepS s t).ths.length = s.ths.length := stepS_len s t
  have hsw : (thOf (stepS s t) t).wait.length ≤ 3 := by rw [stepS_wait htl]; exact hw3
  have HST : Hid (orderX P.mode (stepS s t) t 12 a b c = stepS s t) := rfl
  have HX := Hid.out (p := Hid _) hx
  clear hx hord hop hsz
  go_enter Try.func42, Try.ntmps42
  go_wp2_with fail
  refine Calls.mono HNX.out ?_
  rintro e w1 ⟨rfl, hb1⟩
  have HP := HPRE.out w1 hb1
  have d5 := HP.c5
  have dp := HP.cp
  have df := HP.cf
  have dr := HP.cr
  have nrt := HP.nrt
  have ntr := HP.ntr
  have lrb := HP.lrb
  have ltb := HP.ltb
  have HF : Hid (DSt (w1.setCell ⟨tb, t * 3, none⟩ (.int .i64 ((pc : Int) + 1))) B P sb v (stepS s t) ∧ Moved w (w1.setCell ⟨tb, t * 3, none⟩ (.int .i64 ((pc : Int) + 1))) v v) := ⟨HP.D, HP.M⟩
  clear HP HPRE HNX
  go_wp2
  all_goals go_end0
  all_goals refine ⟨rfl, v, ?_⟩
  all_goals rw [HST.out]
  all_goals exact ⟨DSt.same (HF.out.1.alloc _) rfl, Moved.same (HF.out.2.alloc _) rfl rfl rfl rfl⟩

set_option maxRecDepth 100000 in
set_option maxHeartbeats 3200000 in
theorem do_17 (w : World) (B sb : Nat) (P : Pg) (v : Rl → Value) (s : Sx) (A : Nat → Option Addr) (L C : Nat → Nat) (X : Nat → Nat → Nat → Int) (m lk rg t : Nat) (mv : Int) (_h0 : 0 ≤ mv) (_h1 : mv ≤ 1000) (hq : mv / 8 = t) (hr : mv % 8 = 0) (hx : Cx w B sb P v s A L C X m lk rg t) (hop : opT X s t 0 = 17) :
    Calls Try.prog 42 #[.pointer (some ⟨sb, 0, none⟩), .int .i64 mv] w (DoQ B sb P v w (orderX P.mode (stepS s t) t 17 (opT X s t 1) (opT X s t 2) (opT X s t 3))) := by
  obtain ⟨n, tb, tc, rb, rc, pc, ⟨htn, hn4, hpc4⟩, HPC, c5, HNX, HPRE⟩ := hx.pre
  have htl : t < s.ths.length := by have := hx.ho.ths; have := hx.ht; omega
  have hrl : (thOf s t).regs.length = rg := hx.ho.regs t hx.ht
  have hord := hx.hc.ord t (thOf s t).pc hx.ht hx.hlt
  have hsz := hx.hc.L4 t hx.ht
  have hrg2 := hx.hc.rg2
  change ordE rg m lk (L t) (opT X s t 0) (opT X s t 1) (opT X s t 2) (opT X s t 3) = 0 at hord
  rw [hop] at hord
  rw [hop] at HNX
  obtain ⟨a, ea⟩ : ∃ x, opT X s t 1 = x := ⟨_, rfl⟩
  obtain ⟨b, eb⟩ : ∃ x, opT X s t 2 = x := ⟨_, rfl⟩
  obtain ⟨c, ec⟩ : ∃ x, opT X s t 3 = x := ⟨_, rfl⟩
  rw [ea, eb, ec] at hord HNX ⊢
  clear ea eb ec
  obtain ⟨ia, rfl, ha⟩ := toN (ok_lock (Or.inl rfl) hord)
  have hwl : s.words.length = m := hx.ho.words
  have hol : s.own.length = lk := hx.ho.own
  have hm64 := hx.hc.m64
  have hlk4 := hx.hc.lk4
  have hw3 := hx.ho.wlen t hx.ht
  have hthn := hx.ho.ths
  have hpn4 := hx.hc.n4
  have hsl : (stepS s t).ths.length = s.ths.length := stepS_len s t
  have hsw : (thOf (stepS s t) t).wait.length ≤ 3 := by rw [stepS_wait htl]; exact hw3
  have HST : Hid (orderX P.mode (stepS s t) t 17 (ia : Int) b c = { stepS s t with own := (stepS s t).own.set ia (t : Int) }) := rfl
  have HX := Hid.out (p := Hid _) hx
  clear hx hord hop hsz
  go_enter Try.func42, Try.ntmps42
  go_wp2_with fail
  refine Calls.mono HNX.out ?_
  rintro e w1 ⟨rfl, hb1⟩
  have HP := HPRE.out w1 hb1
  have d5 := HP.c5
  have dp := HP.cp
  have df := HP.cf
  have dr := HP.cr
  have nrt := HP.nrt
  have ntr := HP.ntr
  have lrb := HP.lrb
  have ltb := HP.ltb
  obtain ⟨ob, oc, hov, hob, hlo⟩ := HP.D.ownB (by show 0 < s.own.length; omega)
  have HF : Hid (DSt ((w1.setCell ⟨tb, t * 3, none⟩ (.int .i64 ((pc : Int) + 1))).setCell ⟨ob, ia, none⟩ (.int .i64 (t : Int))) B P sb v { stepS s t with own := (stepS s t).own.set ia (t : Int) } ∧ Moved w ((w1.setCell ⟨tb, t * 3, none⟩ (.int .i64 ((pc : Int) + 1))).setCell ⟨ob, ia, none⟩ (.int .i64 (t : Int))) v v) := ⟨HP.D.setOwn hob ia t, HP.M.put hob ia _⟩
  have nso := HP.D.fam.ne HP.D.bblk HP.btb (by simp)
  have nto := HP.D.fam.ne HP.btb hob (by simp)
  have not := HP.D.fam.ne hob HP.btb (by simp)
  have c7 := HP.D.c7
  rw [hov, show (stepS s t).own.length = s.own.length from rfl, hol] at c7
  have c7' := (World.cell?_of_block (w := w1) (a := ⟨sb, 7, none⟩) (Below.heap_setCell _ _ _ _ HP.nst)).symm.trans c7
  have co := HP.D.owner hob (r := ia) (by show ia < s.own.length; omega)
  have co' := (World.cell?_of_block (w := w1) (a := ⟨ob, ia, none⟩) (Below.heap_setCell _ _ _ _ not)).symm.trans co
  have fo := HP.D.fam.frozen hob ia
  have fo' := (World.frozen?_of_block (w := w1) (a := ⟨ob, ia, none⟩) (Below.heap_setCell _ _ _ _ not)).symm.trans fo
  have lsb := HP.lsb
  have lob : ob < w1.heap.size := by simpa [World.setCell] using hlo
  obtain ⟨y, ey⟩ : ∃ y, (stepS s t).own.getD ia 0 = y := ⟨_, rfl⟩
  rw [ey] at co'
  clear HP HPRE HNX hov hob c7 co fo ey hlo
  go_wp2
  refine region_tail 8 (by kernel_rfl) (by kernel_rfl) ?_
  simp only [List.take_succ_cons, List.take_zero, List.drop_succ_cons, List.drop_zero]
  repeat still_step
  refine wpStill_nil ?_
  go_wp2
  all_goals go_end0
  all_goals refine ⟨rfl, v, ?_⟩
  all_goals rw [HST.out]
  all_goals exact ⟨DSt.same (HF.out.1.alloc _) rfl, Moved.same (HF.out.2.alloc _) rfl rfl rfl rfl⟩

end Go.Proofs.Ytefnmbnakphhfad
