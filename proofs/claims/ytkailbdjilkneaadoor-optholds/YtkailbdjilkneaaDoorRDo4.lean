/-
  Moves of the document's run: a load by a register.
  Moves of the document's run: a store by a register.
  Moves of the document's run: compare and swap.
  Moves of the document's run: a print.
  A move of the document's run: a thread's order, whichever it is.
  What the document's Run goes by: a script's picks, the run as a plain function, the round's invariant.
-/
import Derived.Test.YtkailbdjilkneaaDoorRFind
import Derived.Test.YtkailbdjilkneaaDoorSOkP
import Derived.Test.YtkailbdjilkneaaDoorRDo6
import Derived.Test.YtkailbdjilkneaaDoorRDo2
import Derived.Test.YtkailbdjilkneaaDoorRDo8
import Derived.Test.YtkailbdjilkneaaDoorBase
import Derived.Test.YtkailbdjilkneaaDoorDSt2
namespace Go.Proofs.YtkailbdjilkneaaDoor
section
open Go.RowKit

set_option maxRecDepth 100000 in
set_option maxHeartbeats 3200000 in
theorem do_10 (w : World) (B sb : Nat) (P : Pg) (v : Rl → Value) (s : Sx) (A : Nat → Option Addr) (L C : Nat → Nat) (X : Nat → Nat → Nat → Int) (m lk rg t : Nat) (mv : Int) (_h0 : 0 ≤ mv) (_h1 : mv ≤ 1000) (hq : mv / 8 = t) (hr : mv % 8 = 0) (hx : Cx w B sb P v s A L C X m lk rg t) (hop : opT X s t 0 = 10) :
    Calls Tryd.prog 81 #[.pointer (some ⟨sb, 0, none⟩), .int .i64 mv] w (DoQ B sb P v w (orderX P.mode (stepS s t) t 10 (opT X s t 1) (opT X s t 2) (opT X s t 3))) := by
  obtain ⟨n, tb, tc, rb, rc, pc, ⟨htn, hn4, hpc4⟩, HPC, c5, HNX, HPRE⟩ := hx.pre
  have htl : t < s.ths.length := by have := hx.ho.ths; have := hx.ht; omega
  have hrl : (thOf s t).regs.length = rg := hx.ho.regs t hx.ht
  have hord := hx.hc.ord t (thOf s t).pc hx.ht hx.hlt
  have hsz := hx.hc.L4 t hx.ht
  have hrg2 := hx.hc.rg2
  change ordE rg m lk (L t) (opT X s t 0) (opT X s t 1) (opT X s t 2) (opT X s t 3) = 0 at hord
  rw [hop] at hord
  rw [hop] at HNX
  obtain ⟨a, ea⟩ : ∃ x, opT X s t 1 = x := ⟨_, rfl⟩
  obtain ⟨b, eb⟩ : ∃ x, opT X s t 2 = x := ⟨_, rfl⟩
  obtain ⟨c, ec⟩ : ∃ x, opT X s t 3 = x := ⟨_, rfl⟩
  rw [ea, eb, ec] at hord HNX ⊢
  clear ea eb ec
  obtain ⟨⟨ia, rfl, ha⟩, ⟨ib, rfl, hb⟩⟩ := by
    have h3 := ok_rr (by omega) hord
    exact (⟨toN h3.1, toN h3.2⟩ : _ ∧ _)
  have hwl : s.words.length = m := hx.ho.words
  have hol : s.own.length = lk := hx.ho.own
  have hm64 := hx.hc.m64
  have hlk4 := hx.hc.lk4
  have hw3 := hx.ho.wlen t hx.ht
  have hthn := hx.ho.ths
  have hpn4 := hx.hc.n4
  have hsl : (stepS s t).ths.length = s.ths.length := stepS_len s t
  have hsw : (thOf (stepS s t) t).wait.length ≤ 3 := by rw [stepS_wait htl]; exact hw3
  obtain ⟨Vb, eb⟩ : ∃ x, getR s t (ib : Int) = x := ⟨_, rfl⟩
  have HVb : Hid (getR s t (ib : Int) = Vb) := eb
  have hBs := hx.hs.fam
  clear eb
  by_cases hin : 0 ≤ Vb ∧ Vb < (s.words.length : Int)
  · obtain ⟨wd, rfl, hwd⟩ := toN hin
    have HST : Hid (orderX P.mode (stepS s t) t 10 (ia : Int) (ib : Int) c = setR (stepS s t) t (ia : Int) (findsW s t (wd : Int))) := by
      show (if getR (stepS s t) t (ib : Int) < 0 ∨ ((stepS s t).words.length : Int) ≤ getR (stepS s t) t (ib : Int) then _ else _) = _
      rw [stepS_getR htl, HVb.out, if_neg (by show ¬ ((wd : Int) < 0 ∨ (s.words.length : Int) ≤ (wd : Int)); omega), stepS_finds htl]
    have HX := Hid.out (p := Hid _) hx
    clear hx hord hop hsz hBs hin
    go_enter Tryd.func81, Tryd.ntmps81
    go_wp2_with fail
    refine Calls.mono HNX.out ?_
    rintro e w1 ⟨rfl, hb1⟩
    have HP := HPRE.out w1 hb1
    have d5 := HP.c5
    have dp := HP.cp
    have df := HP.cf
    have dr := HP.cr
    have nrt := HP.nrt
    have ntr := HP.ntr
    have lrb := HP.lrb
    have ltb := HP.ltb
    have fa := HP.frz ia
    have wa := HP.regW htl (r := ia) (by omega)
    obtain ⟨VA, eA⟩ : ∃ x, getR s t (ia : Int) = x := ⟨_, rfl⟩
    rw [eA] at wa
    clear eA
    have wb := HP.regW htl (r := ib) (by omega)
    rw [HVb.out] at wb
    have HF := Hid.out (p := Hid _) (HP.fin htl ia (findsW s t (wd : Int)))
    have HC : Hid (∀ o, Calls Tryd.prog 118 #[.pointer (some ⟨sb, 0, none⟩), .int .i64 t, .int .i64 (wd : Int)] ((w1.setCell ⟨tb, t * 3, none⟩ (.int .i64 ((pc : Int) + 1))).alloc o).drew fun e w' => e = .returned (.int .i64 (findsW s t (wd : Int))) ∧ w' = ((w1.setCell ⟨tb, t * 3, none⟩ (.int .i64 ((pc : Int) + 1))).alloc o).drew) := fun o => by
      have := finds_D _ B sb P v (stepS s t) t wd ((HP.D.alloc o).drew) (by rw [hsl]; exact htl) (by rw [hsl]; omega) (by show wd < s.words.length; omega) (by show s.words.length ≤ 64; omega) hsw
      rwa [stepS_finds htl] at this
    have HWD : Hid (∀ o, Calls Tryd.prog 120 #[.pointer (some ⟨sb, 0, none⟩), .int .i64 (wd : Int)] ((w1.setCell ⟨tb, t * 3, none⟩ (.int .i64 ((pc : Int) + 1))).alloc o) fun e w' => e = .returned (.bool true) ∧ ((w1.setCell ⟨tb, t * 3, none⟩ (.int .i64 ((pc : Int) + 1))).alloc o) = w') := fun o =>
      word_yes _ B sb P v (stepS s t) (wd : Int) (HP.D.alloc o) (by show s.words.length ≤ 64; omega) (by show 0 ≤ (wd : Int) ∧ (wd : Int) < (s.words.length : Int); omega)
    clear HP HPRE HNX
    go_wp2_with fail
    refine Calls.mono (HWD.out _) ?_
    rintro e w2 ⟨rfl, rfl⟩
    go_wp2
    refine region_tail 12 (by kernel_rfl) (by kernel_rfl) ?_
    simp only [List.take_succ_cons, List.take_zero, List.drop_succ_cons, List.drop_zero]
    repeat still_step
    still_call (HC.out _)
    repeat still_step
    refine wpStill_nil ?_
    go_wp2
    all_goals go_end0
    all_goals refine ⟨rfl, v, ?_⟩
    all_goals rw [HST.out]
    all_goals exact ⟨DSt.same (HF.out.1.alloc _) rfl, Moved.same (HF.out.2.alloc _) rfl rfl rfl rfl⟩
  · have HST : Hid (orderX P.mode (stepS s t) t 10 (ia : Int) (ib : Int) c = fallX (stepS s t)) := by
      show (if getR (stepS s t) t (ib : Int) < 0 ∨ ((stepS s t).words.length : Int) ≤ getR (stepS s t) t (ib : Int) then _ else _) = _
      rw [stepS_getR htl, HVb.out, if_pos (by show Vb < 0 ∨ (s.words.length : Int) ≤ Vb; omega)]
    have HX := Hid.out (p := Hid _) hx
    clear hx hord hop hsz hBs
    go_enter Tryd.func81, Tryd.ntmps81
    go_wp2_with fail
    refine Calls.mono HNX.out ?_
    rintro e w1 ⟨rfl, hb1⟩
    have HP := HPRE.out w1 hb1
    have d5 := HP.c5
    have dp := HP.cp
    have df := HP.cf
    have dr := HP.cr
    have nrt := HP.nrt
    have ntr := HP.ntr
    have lrb := HP.lrb
    have ltb := HP.ltb
    have wb := HP.regW htl (r := ib) (by omega)
    rw [HVb.out] at wb
    have HF : Hid (DSt ((w1.setCell ⟨tb, t * 3, none⟩ (.int .i64 ((pc : Int) + 1))).setCell ⟨sb, 9, none⟩ (.bool true)) B P sb v (fallX (stepS s t)) ∧ Moved w ((w1.setCell ⟨tb, t * 3, none⟩ (.int .i64 ((pc : Int) + 1))).setCell ⟨sb, 9, none⟩ (.bool true)) v v) := ⟨HP.D.fall, HP.M.put HP.D.bblk 9 _⟩
    have hset : ∀ o, ((w1.setCell ⟨tb, t * 3, none⟩ (.int .i64 ((pc : Int) + 1))).alloc o).setCell ⟨sb, 9, none⟩ (.bool true) = ((w1.setCell ⟨tb, t * 3, none⟩ (.int .i64 ((pc : Int) + 1))).setCell ⟨sb, 9, none⟩ (.bool true)).alloc o := fun o => setCell_up (by have := HP.lsb; simpa [World.setCell] using this)
    have HWD : Hid (∀ o, Calls Tryd.prog 120 #[.pointer (some ⟨sb, 0, none⟩), .int .i64 Vb] ((w1.setCell ⟨tb, t * 3, none⟩ (.int .i64 ((pc : Int) + 1))).alloc o) fun e w' => e = .returned (.bool false) ∧ ((w1.setCell ⟨tb, t * 3, none⟩ (.int .i64 ((pc : Int) + 1))).setCell ⟨sb, 9, none⟩ (.bool true)).alloc o = w') := fun o => by
      have := word_no _ B sb P v (stepS s t) Vb (HP.D.alloc o) (by show s.words.length ≤ 64; omega) (by show Vb < 0 ∨ (s.words.length : Int) ≤ Vb; omega)
      rwa [hset o] at this
    clear HP HPRE HNX hset
    go_wp2_with fail
    refine Calls.mono (HWD.out _) ?_
    rintro e w2 ⟨rfl, rfl⟩
    go_wp2
    all_goals go_end0
    all_goals refine ⟨rfl, v, ?_⟩
    all_goals rw [HST.out]
    all_goals exact ⟨DSt.same (HF.out.1.alloc _) rfl, Moved.same (HF.out.2.alloc _) rfl rfl rfl rfl⟩
end

section
open Go.RowKit

set_option maxRecDepth 100000 in
set_option maxHeartbeats 3200000 in
theorem do_11 (w : World) (B sb : Nat) (P : Pg) (v : Rl → Value) (s : Sx) (A : Nat → Option Addr) (L C : Nat → Nat) (X : Nat → Nat → Nat → Int) (m lk rg t : Nat) (mv : Int) (_h0 : 0 ≤ mv) (_h1 : mv ≤ 1000) (hq : mv / 8 = t) (hr : mv % 8 = 0) (hx : Cx w B sb P v s A L C X m lk rg t) (hop : opT X s t 0 = 11) :
    Calls Tryd.prog 81 #[.pointer (some ⟨sb, 0, none⟩), .int .i64 mv] w (DoQ B sb P v w (orderX P.mode (stepS s t) t 11 (opT X s t 1) (opT X s t 2) (opT X s t 3))) := by
  obtain ⟨n, tb, tc, rb, rc, pc, ⟨htn, hn4, hpc4⟩, HPC, c5, HNX, HPRE⟩ := hx.pre
  have htl : t < s.ths.length := by have := hx.ho.ths; have := hx.ht; omega
  have hrl : (thOf s t).regs.length = rg := hx.ho.regs t hx.ht
  have hord := hx.hc.ord t (thOf s t).pc hx.ht hx.hlt
  have hsz := hx.hc.L4 t hx.ht
  have hrg2 := hx.hc.rg2
  change ordE rg m lk (L t) (opT X s t 0) (opT X s t 1) (opT X s t 2) (opT X s t 3) = 0 at hord
  rw [hop] at hord
  rw [hop] at HNX
  obtain ⟨a, ea⟩ : ∃ x, opT X s t 1 = x := ⟨_, rfl⟩
  obtain ⟨b, eb⟩ : ∃ x, opT X s t 2 = x := ⟨_, rfl⟩
  obtain ⟨c, ec⟩ : ∃ x, opT X s t 3 = x := ⟨_, rfl⟩
  rw [ea, eb, ec] at hord HNX ⊢
  clear ea eb ec
  obtain ⟨⟨ia, rfl, ha⟩, ⟨ib, rfl, hb⟩⟩ := by
    have h3 := ok_rr (by omega) hord
    exact (⟨toN h3.1, toN h3.2⟩ : _ ∧ _)
  have hwl : s.words.length = m := hx.ho.words
  have hol : s.own.length = lk := hx.ho.own
  have hm64 := hx.hc.m64
  have hlk4 := hx.hc.lk4
  have hw3 := hx.ho.wlen t hx.ht
  have hthn := hx.ho.ths
  have hpn4 := hx.hc.n4
  have hsl : (stepS s t).ths.length = s.ths.length := stepS_len s t
  have hsw : (thOf (stepS s t) t).wait.length ≤ 3 := by rw [stepS_wait htl]; exact hw3
  obtain ⟨Va, ea⟩ : ∃ x, getR s t (ia : Int) = x := ⟨_, rfl⟩
  have HVa : Hid (getR s t (ia : Int) = Va) := ea
  obtain ⟨Vb, eb⟩ : ∃ x, getR s t (ib : Int) = x := ⟨_, rfl⟩
  have HVb : Hid (getR s t (ib : Int) = Vb) := eb
  clear ea eb
  have hmode := hx.hm
  have hBw := hx.hB
  by_cases hin : 0 ≤ Va ∧ Va < (s.words.length : Int)
  · obtain ⟨wd, rfl, hwd⟩ := toN hin
    have HST : Hid (orderX P.mode (stepS s t) t 11 (ia : Int) (ib : Int) c = storeW P.mode (stepS s t) t ⟨false, (wd : Int), Vb⟩) := by
      show (if getR (stepS s t) t (ia : Int) < 0 ∨ ((stepS s t).words.length : Int) ≤ getR (stepS s t) t (ia : Int) then _ else _) = _
      rw [stepS_getR htl, stepS_getR htl, HVa.out, HVb.out, if_neg (by show ¬ ((wd : Int) < 0 ∨ (s.words.length : Int) ≤ (wd : Int)); omega)]
    have HX := Hid.out (p := Hid _) hx
    clear hx hord hop hsz hin
    go_enter Tryd.func81, Tryd.ntmps81
    go_wp2_with fail
    refine Calls.mono HNX.out ?_
    rintro e w1 ⟨rfl, hb1⟩
    have HP := HPRE.out w1 hb1
    have d5 := HP.c5
    have dp := HP.cp
    have df := HP.cf
    have dr := HP.cr
    have nrt := HP.nrt
    have ntr := HP.ntr
    have lrb := HP.lrb
    have ltb := HP.ltb
    have wa := HP.regW htl (r := ia) (by omega)
    rw [HVa.out] at wa
    have wb := HP.regW htl (r := ib) (by omega)
    rw [HVb.out] at wb
    have HC : Hid (∀ o, Calls Tryd.prog 119 #[.pointer (some ⟨sb, 0, none⟩), .int .i64 t, .agg #[.bool false, .int .i64 (wd : Int), .int .i64 Vb]] ((w1.setCell ⟨tb, t * 3, none⟩ (.int .i64 ((pc : Int) + 1))).alloc o).drew fun e w' => e = .returned (.tuple #[]) ∧ ∃ v', DSt w' B P sb v' (storeW P.mode (stepS s t) t ⟨false, (wd : Int), Vb⟩) ∧ Moved w w' v v') := fun o =>
      (store_any _ B sb P v (stepS s t) t ⟨false, (wd : Int), Vb⟩ ((HP.D.alloc o).drew) (by have := (HP.M.alloc o).size; simp at this ⊢; omega) hmode (by rw [hsl]; exact htl) (by rw [hsl]; omega) hsw (by show (0 : Int) ≤ (wd : Int); omega) (by show (wd : Int) < ((s.words.length : Nat) : Int); omega) (by show s.words.length ≤ 64; omega) (by show s.own.length ≤ 4; omega)).mono fun e w' ⟨h1, v', h2, h3⟩ => ⟨h1, v', h2, ((HP.M.alloc o).drew).trans h3⟩
    have HWD : Hid (∀ o, Calls Tryd.prog 120 #[.pointer (some ⟨sb, 0, none⟩), .int .i64 (wd : Int)] ((w1.setCell ⟨tb, t * 3, none⟩ (.int .i64 ((pc : Int) + 1))).alloc o) fun e w' => e = .returned (.bool true) ∧ ((w1.setCell ⟨tb, t * 3, none⟩ (.int .i64 ((pc : Int) + 1))).alloc o) = w') := fun o =>
      word_yes _ B sb P v (stepS s t) (wd : Int) (HP.D.alloc o) (by show s.words.length ≤ 64; omega) (by show 0 ≤ (wd : Int) ∧ (wd : Int) < (s.words.length : Int); omega)
    clear HP HPRE HNX
    go_wp2_with fail
    refine Calls.mono (HWD.out _) ?_
    rintro e w2 ⟨rfl, rfl⟩
    go_wp2
    refine region_tail 13 (by kernel_rfl) (by kernel_rfl) ?_
    simp only [List.take_succ_cons, List.take_zero, List.drop_succ_cons, List.drop_zero]
    repeat still_step
    refine wpStill_nil ?_
    go_wp2_with fail
    refine Calls.mono (HC.out _) ?_
    rintro e w3 ⟨rfl, v2, hD2, hM2⟩
    go_wp2_with fail
    go_end0
    refine ⟨rfl, v2, ?_⟩
    rw [HST.out]
    exact ⟨hD2, hM2⟩
  · have HST : Hid (orderX P.mode (stepS s t) t 11 (ia : Int) (ib : Int) c = fallX (stepS s t)) := by
      show (if getR (stepS s t) t (ia : Int) < 0 ∨ ((stepS s t).words.length : Int) ≤ getR (stepS s t) t (ia : Int) then _ else _) = _
      rw [stepS_getR htl, HVa.out, if_pos (by show Va < 0 ∨ (s.words.length : Int) ≤ Va; omega)]
    have HX := Hid.out (p := Hid _) hx
    clear hx hord hop hsz
    go_enter Tryd.func81, Tryd.ntmps81
    go_wp2_with fail
    refine Calls.mono HNX.out ?_
    rintro e w1 ⟨rfl, hb1⟩
    have HP := HPRE.out w1 hb1
    have d5 := HP.c5
    have dp := HP.cp
    have df := HP.cf
    have dr := HP.cr
    have nrt := HP.nrt
    have ntr := HP.ntr
    have lrb := HP.lrb
    have ltb := HP.ltb
    have wa := HP.regW htl (r := ia) (by omega)
    rw [HVa.out] at wa
    have HF : Hid (DSt ((w1.setCell ⟨tb, t * 3, none⟩ (.int .i64 ((pc : Int) + 1))).setCell ⟨sb, 9, none⟩ (.bool true)) B P sb v (fallX (stepS s t)) ∧ Moved w ((w1.setCell ⟨tb, t * 3, none⟩ (.int .i64 ((pc : Int) + 1))).setCell ⟨sb, 9, none⟩ (.bool true)) v v) := ⟨HP.D.fall, HP.M.put HP.D.bblk 9 _⟩
    have hset : ∀ o, ((w1.setCell ⟨tb, t * 3, none⟩ (.int .i64 ((pc : Int) + 1))).alloc o).setCell ⟨sb, 9, none⟩ (.bool true) = ((w1.setCell ⟨tb, t * 3, none⟩ (.int .i64 ((pc : Int) + 1))).setCell ⟨sb, 9, none⟩ (.bool true)).alloc o := fun o => setCell_up (by have := HP.lsb; simpa [World.setCell] using this)
    have HWD : Hid (∀ o, Calls Tryd.prog 120 #[.pointer (some ⟨sb, 0, none⟩), .int .i64 Va] ((w1.setCell ⟨tb, t * 3, none⟩ (.int .i64 ((pc : Int) + 1))).alloc o) fun e w' => e = .returned (.bool false) ∧ ((w1.setCell ⟨tb, t * 3, none⟩ (.int .i64 ((pc : Int) + 1))).setCell ⟨sb, 9, none⟩ (.bool true)).alloc o = w') := fun o => by
      have := word_no _ B sb P v (stepS s t) Va (HP.D.alloc o) (by show s.words.length ≤ 64; omega) (by show Va < 0 ∨ (s.words.length : Int) ≤ Va; omega)
      rwa [hset o] at this
    clear HP HPRE HNX hset
    go_wp2_with fail
    refine Calls.mono (HWD.out _) ?_
    rintro e w2 ⟨rfl, rfl⟩
    go_wp2
    all_goals go_end0
    all_goals refine ⟨rfl, v, ?_⟩
    all_goals rw [HST.out]
    all_goals exact ⟨DSt.same (HF.out.1.alloc _) rfl, Moved.same (HF.out.2.alloc _) rfl rfl rfl rfl⟩
end

section
open Go.RowKit

set_option maxRecDepth 100000 in
set_option maxHeartbeats 3200000 in
theorem do_13 (w : World) (B sb : Nat) (P : Pg) (v : Rl → Value) (s : Sx) (A : Nat → Option Addr) (L C : Nat → Nat) (X : Nat → Nat → Nat → Int) (m lk rg t : Nat) (mv : Int) (_h0 : 0 ≤ mv) (_h1 : mv ≤ 1000) (hq : mv / 8 = t) (hr : mv % 8 = 0) (hx : Cx w B sb P v s A L C X m lk rg t) (hop : opT X s t 0 = 13) :
    Calls Tryd.prog 81 #[.pointer (some ⟨sb, 0, none⟩), .int .i64 mv] w (DoQ B sb P v w (orderX P.mode (stepS s t) t 13 (opT X s t 1) (opT X s t 2) (opT X s t 3))) := by
  obtain ⟨n, tb, tc, rb, rc, pc, ⟨htn, hn4, hpc4⟩, HPC, c5, HNX, HPRE⟩ := hx.pre
  have htl : t < s.ths.length := by have := hx.ho.ths; have := hx.ht; omega
  have hrl : (thOf s t).regs.length = rg := hx.ho.regs t hx.ht
  have hord := hx.hc.ord t (thOf s t).pc hx.ht hx.hlt
  have hsz := hx.hc.L4 t hx.ht
  have hrg2 := hx.hc.rg2
  change ordE rg m lk (L t) (opT X s t 0) (opT X s t 1) (opT X s t 2) (opT X s t 3) = 0 at hord
  rw [hop] at hord
  rw [hop] at HNX
  obtain ⟨a, ea⟩ : ∃ x, opT X s t 1 = x := ⟨_, rfl⟩
  obtain ⟨b, eb⟩ : ∃ x, opT X s t 2 = x := ⟨_, rfl⟩
  obtain ⟨c, ec⟩ : ∃ x, opT X s t 3 = x := ⟨_, rfl⟩
  rw [ea, eb, ec] at hord HNX ⊢
  clear ea eb ec
  obtain ⟨⟨ia, rfl, ha⟩, ⟨ib, rfl, hb⟩, ⟨ic, rfl, hc⟩⟩ := by
    have h3 := ok_cas hord
    exact (⟨toN h3.1, toN h3.2.1, toN h3.2.2⟩ : _ ∧ _ ∧ _)
  have hwl : s.words.length = m := hx.ho.words
  have hol : s.own.length = lk := hx.ho.own
  have hm64 := hx.hc.m64
  have hlk4 := hx.hc.lk4
  have hw3 := hx.ho.wlen t hx.ht
  have hthn := hx.ho.ths
  have hpn4 := hx.hc.n4
  have hsl : (stepS s t).ths.length = s.ths.length := stepS_len s t
  have hsw : (thOf (stepS s t) t).wait.length ≤ 3 := by rw [stepS_wait htl]; exact hw3
  obtain ⟨Vb, eb⟩ : ∃ x, getR s t (ib : Int) = x := ⟨_, rfl⟩
  have HVb : Hid (getR s t (ib : Int) = Vb) := eb
  obtain ⟨Vc, ec⟩ : ∃ x, getR s t (ic : Int) = x := ⟨_, rfl⟩
  have HVc : Hid (getR s t (ic : Int) = Vc) := ec
  obtain ⟨VW, eW⟩ : ∃ x, s.words.getD ia 0 = x := ⟨_, rfl⟩
  have HVW : Hid (s.words.getD ia 0 = VW) := eW
  clear eb ec eW
  by_cases hin : VW = Vb
  · subst hin
    have HST : Hid (orderX P.mode (stepS s t) t 13 (ia : Int) (ib : Int) (ic : Int) = setR { stepS s t with words := (stepS s t).words.set ia Vc } t (ib : Int) 1) := by
      show (if (stepS s t).words.getD ia 0 = getR (stepS s t) t (ib : Int) then setR { stepS s t with words := (stepS s t).words.set ia (getR (stepS s t) t (ic : Int)) } t (ib : Int) 1 else _) = _
      rw [stepS_getR htl, stepS_getR htl, HVb.out, HVc.out, if_pos (by exact HVW.out)]
    have HX := Hid.out (p := Hid _) hx
    clear hx hord hop hsz
    go_enter Tryd.func81, Tryd.ntmps81
    go_wp2_with fail
    refine Calls.mono HNX.out ?_
    rintro e w1 ⟨rfl, hb1⟩
    have HP := HPRE.out w1 hb1
    have d5 := HP.c5
    have dp := HP.cp
    have df := HP.cf
    have dr := HP.cr
    have nrt := HP.nrt
    have ntr := HP.ntr
    have lrb := HP.lrb
    have ltb := HP.ltb
    have wb := HP.regW htl (r := ib) (by omega)
    rw [HVb.out] at wb
    have wc := HP.regW htl (r := ic) (by omega)
    rw [HVc.out] at wc
    obtain ⟨wb, wc, hwv, hwb, hlw⟩ := HP.D.wordsB (by show 0 < s.words.length; omega)
    have ntw := HP.D.fam.ne HP.btb hwb (by simp)
    have nwt := HP.D.fam.ne hwb HP.btb (by simp)
    have nrw := HP.D.fam.ne HP.brb hwb (by simp)
    have nwr := HP.D.fam.ne hwb HP.brb (by simp)
    have c6 := HP.D.c6
    rw [hwv, show (stepS s t).words.length = s.words.length from rfl, hwl] at c6
    have c6' := (World.cell?_of_block (w := w1) (a := ⟨sb, 6, none⟩) (Below.heap_setCell _ _ _ _ HP.nst)).symm.trans c6
    have co := HP.D.word hwb (r := ia) (by show ia < s.words.length; omega)
    have co' := (World.cell?_of_block (w := w1) (a := ⟨wb, ia, none⟩) (Below.heap_setCell _ _ _ _ nwt)).symm.trans co
    have fo := HP.D.fam.frozen hwb ia
    have fo' := (World.frozen?_of_block (w := w1) (a := ⟨wb, ia, none⟩) (Below.heap_setCell _ _ _ _ nwt)).symm.trans fo
    have fb := HP.frz ib
    have nst := HP.nst
    have nts := HP.nts
    have lsb := HP.lsb
    have lwb : wb < w1.heap.size := by simpa [World.setCell] using hlw
    rw [show (stepS s t).words.getD ia 0 = s.words.getD ia 0 from rfl, HVW.out] at co'
    have HF : Hid (∀ o, DSt ((((w1.setCell ⟨tb, t * 3, none⟩ (.int .i64 ((pc : Int) + 1))).alloc o).setCell ⟨wb, ia, none⟩ (.int .i64 Vc)).setCell ⟨rb, ib, none⟩ (.int .i64 1)) B P sb v (setR { stepS s t with words := (stepS s t).words.set ia Vc } t (ib : Int) 1) ∧ Moved w ((((w1.setCell ⟨tb, t * 3, none⟩ (.int .i64 ((pc : Int) + 1))).alloc o).setCell ⟨wb, ia, none⟩ (.int .i64 Vc)).setCell ⟨rb, ib, none⟩ (.int .i64 1)) v v) := fun o => ⟨((HP.D.alloc o).setWord hwb ia Vc).setReg HP.brb (by show t < (stepS s t).ths.length; rw [hsl]; exact htl) ib 1, ((HP.M.alloc o).put hwb ia _).put HP.brb ib _⟩
    clear HP HPRE HNX hwv hwb c6 co fo hlw
    go_wp2
    go_quiet (fail)
    go_wp2
    refine region_tail 12 (by kernel_rfl) (by kernel_rfl) ?_
    simp only [List.take_succ_cons, List.take_zero, List.drop_succ_cons, List.drop_zero]
    repeat still_step
    refine wpStill_nil ?_
    go_wp2
    all_goals go_end0
    all_goals refine ⟨rfl, v, ?_⟩
    all_goals rw [HST.out]
    all_goals exact ⟨DSt.same (HF.out _).1 rfl, Moved.same (HF.out _).2 rfl rfl rfl rfl⟩
  · have HST : Hid (orderX P.mode (stepS s t) t 13 (ia : Int) (ib : Int) (ic : Int) = setR (stepS s t) t (ib : Int) 0) := by
      show (if (stepS s t).words.getD ia 0 = getR (stepS s t) t (ib : Int) then _ else setR (stepS s t) t (ib : Int) 0) = _
      rw [stepS_getR htl, HVb.out, if_neg (by show ¬ s.words.getD ia 0 = Vb; rw [HVW.out]; exact hin)]
    have HX := Hid.out (p := Hid _) hx
    clear hx hord hop hsz
    go_enter Tryd.func81, Tryd.ntmps81
    go_wp2_with fail
    refine Calls.mono HNX.out ?_
    rintro e w1 ⟨rfl, hb1⟩
    have HP := HPRE.out w1 hb1
    have d5 := HP.c5
    have dp := HP.cp
    have df := HP.cf
    have dr := HP.cr
    have nrt := HP.nrt
    have ntr := HP.ntr
    have lrb := HP.lrb
    have ltb := HP.ltb
    have wb := HP.regW htl (r := ib) (by omega)
    rw [HVb.out] at wb
    obtain ⟨wb, wc, hwv, hwb, hlw⟩ := HP.D.wordsB (by show 0 < s.words.length; omega)
    have ntw := HP.D.fam.ne HP.btb hwb (by simp)
    have nwt := HP.D.fam.ne hwb HP.btb (by simp)
    have nrw := HP.D.fam.ne HP.brb hwb (by simp)
    have nwr := HP.D.fam.ne hwb HP.brb (by simp)
    have c6 := HP.D.c6
    rw [hwv, show (stepS s t).words.length = s.words.length from rfl, hwl] at c6
    have c6' := (World.cell?_of_block (w := w1) (a := ⟨sb, 6, none⟩) (Below.heap_setCell _ _ _ _ HP.nst)).symm.trans c6
    have co := HP.D.word hwb (r := ia) (by show ia < s.words.length; omega)
    have co' := (World.cell?_of_block (w := w1) (a := ⟨wb, ia, none⟩) (Below.heap_setCell _ _ _ _ nwt)).symm.trans co
    have fo := HP.D.fam.frozen hwb ia
    have fo' := (World.frozen?_of_block (w := w1) (a := ⟨wb, ia, none⟩) (Below.heap_setCell _ _ _ _ nwt)).symm.trans fo
    have fb := HP.frz ib
    have nst := HP.nst
    have nts := HP.nts
    have lsb := HP.lsb
    have lwb : wb < w1.heap.size := by simpa [World.setCell] using hlw
    rw [show (stepS s t).words.getD ia 0 = s.words.getD ia 0 from rfl, HVW.out] at co'
    have HF : Hid (∀ o, DSt (((w1.setCell ⟨tb, t * 3, none⟩ (.int .i64 ((pc : Int) + 1))).alloc o).setCell ⟨rb, ib, none⟩ (.int .i64 0)) B P sb v (setR (stepS s t) t (ib : Int) 0) ∧ Moved w (((w1.setCell ⟨tb, t * 3, none⟩ (.int .i64 ((pc : Int) + 1))).alloc o).setCell ⟨rb, ib, none⟩ (.int .i64 0)) v v) := fun o => ⟨(HP.D.alloc o).setReg HP.brb (by rw [hsl]; exact htl) ib 0, (HP.M.alloc o).put HP.brb ib _⟩
    clear HP HPRE HNX hwv hwb c6 co fo hlw
    go_wp2
    go_quiet (fail)
    go_wp2
    all_goals go_end0
    all_goals refine ⟨rfl, v, ?_⟩
    all_goals rw [HST.out]
    all_goals exact ⟨DSt.same (HF.out _).1 rfl, Moved.same (HF.out _).2 rfl rfl rfl rfl⟩
end

section
open Go.RowKit

attribute [local go_sem ↓] appS_eq
set_option maxRecDepth 100000 in
set_option maxHeartbeats 3200000 in
theorem do_16 (w : World) (B sb : Nat) (P : Pg) (v : Rl → Value) (s : Sx) (A : Nat → Option Addr) (L C : Nat → Nat) (X : Nat → Nat → Nat → Int) (m lk rg t : Nat) (mv : Int) (_h0 : 0 ≤ mv) (_h1 : mv ≤ 1000) (hq : mv / 8 = t) (hr : mv % 8 = 0) (hx : Cx w B sb P v s A L C X m lk rg t) (hop : opT X s t 0 = 16) :
    Calls Tryd.prog 81 #[.pointer (some ⟨sb, 0, none⟩), .int .i64 mv] w (DoQ B sb P v w (orderX P.mode (stepS s t) t 16 (opT X s t 1) (opT X s t 2) (opT X s t 3))) := by
  obtain ⟨n, tb, tc, rb, rc, pc, ⟨htn, hn4, hpc4⟩, HPC, c5, HNX, HPRE⟩ := hx.pre
  have htl : t < s.ths.length := by have := hx.ho.ths; have := hx.ht; omega
  have hrl : (thOf s t).regs.length = rg := hx.ho.regs t hx.ht
  have hord := hx.hc.ord t (thOf s t).pc hx.ht hx.hlt
  have hsz := hx.hc.L4 t hx.ht
  have hrg2 := hx.hc.rg2
  change ordE rg m lk (L t) (opT X s t 0) (opT X s t 1) (opT X s t 2) (opT X s t 3) = 0 at hord
  rw [hop] at hord
  rw [hop] at HNX
  obtain ⟨a, ea⟩ : ∃ x, opT X s t 1 = x := ⟨_, rfl⟩
  obtain ⟨b, eb⟩ : ∃ x, opT X s t 2 = x := ⟨_, rfl⟩
  obtain ⟨c, ec⟩ : ∃ x, opT X s t 3 = x := ⟨_, rfl⟩
  rw [ea, eb, ec] at hord HNX ⊢
  clear ea eb ec
  obtain ⟨ia, rfl, ha⟩ := toN (ok_print hord)
  have hwl : s.words.length = m := hx.ho.words
  have hol : s.own.length = lk := hx.ho.own
  have hm64 := hx.hc.m64
  have hlk4 := hx.hc.lk4
  have hw3 := hx.ho.wlen t hx.ht
  have hthn := hx.ho.ths
  have hpn4 := hx.hc.n4
  have hsl : (stepS s t).ths.length = s.ths.length := stepS_len s t
  have hsw : (thOf (stepS s t) t).wait.length ≤ 3 := by rw [stepS_wait htl]; exact hw3
  obtain ⟨Va, ea⟩ : ∃ x, getR s t (ia : Int) = x := ⟨_, rfl⟩
  have HVa : Hid (getR s t (ia : Int) = Va) := ea
  clear ea
  have hpr := hx.hpr
  have hBw := hx.hB
  have HST : Hid (orderX P.mode (stepS s t) t 16 (ia : Int) b c = { stepS s t with prints := (stepS s t).prints ++ [(t : Int), Va] }) := by
    show { stepS s t with prints := (stepS s t).prints ++ [(t : Int), getR (stepS s t) t (ia : Int)] } = _
    rw [stepS_getR htl, HVa.out]
  have HX := Hid.out (p := Hid _) hx
  clear hx hord hop hsz
  go_enter Tryd.func81, Tryd.ntmps81
  go_wp2_with fail
  refine Calls.mono HNX.out ?_
  rintro e w1 ⟨rfl, hb1⟩
  have HP := HPRE.out w1 hb1
  have d5 := HP.c5
  have dp := HP.cp
  have df := HP.cf
  have dr := HP.cr
  have nrt := HP.nrt
  have ntr := HP.ntr
  have lrb := HP.lrb
  have ltb := HP.ltb
  have wa := HP.regW htl (r := ia) (by omega)
  rw [HVa.out] at wa
  have nst := HP.nst
  have nts := HP.nts
  have lsb := HP.lsb
  obtain ⟨pa, pcap, hpv⟩ := HP.D.printsV
  rw [show (stepS s t).prints.length = s.prints.length from rfl] at hpv
  have c8 := HP.D.c8
  rw [hpv] at c8
  have f8 := HP.D.fam.frozen HP.D.bblk 8
  have hWs : B ≤ (w1.setCell ⟨tb, t * 3, none⟩ (.int .i64 ((pc : Int) + 1))).heap.size := by have := HP.M.size; omega
  have hsz1 : (w1.setCell ⟨tb, t * 3, none⟩ (.int .i64 ((pc : Int) + 1))).heap.size = w1.heap.size := by simp [World.setCell]
  obtain ⟨g, cap, w3, hr1, hr2, hr3, hr4⟩ := app_row (T := 23) Tryd.underlying23 infoI rfl (by omega) (HP.D.fam.own .prints) ((((Below.refl _ (w1.setCell ⟨tb, t * 3, none⟩ (.int .i64 ((pc : Int) + 1)))).alloc (Nat.le_refl _) (.cells #[.int .i64 16, .int .i64 (ia : Int), .int .i64 b, .int .i64 c] 44))).drew) hWs 2 #[.int .i64 (t : Int), .int .i64 Va] rfl (by simp [Value.oneCell']) (by omega) (by show s.prints.length + 2 ≤ _; omega) (by omega)
  have hne : some sb ≠ (v .prints).ownBlock := fun e => absurd (HP.D.fam.apart _ _ sb HP.D.bblk e.symm) (by simp)
  have q8 := hr3.cell (cell_up2 c8 (.cells #[.int .i64 16, .int .i64 (ia : Int), .int .i64 b, .int .i64 c] 44) (.cells #[.int .i64 (t : Int), .int .i64 Va] 3)) hne
  have qf : w3.frozen? ⟨sb, 8, none⟩ = false := (hr3.frozen_far ⟨sb, 8, none⟩ (by simp [World.setCell]; omega) hne).trans (frozen_up2 (by simp [World.setCell]; omega) f8 _ _)
  have hD1 := (HP.D.below (((((Below.refl _ (w1.setCell ⟨tb, t * 3, none⟩ (.int .i64 ((pc : Int) + 1)))).alloc (Nat.le_refl _) (.cells #[.int .i64 16, .int .i64 (ia : Int), .int .i64 b, .int .i64 c] 44))).drew).alloc (by simp) (.cells #[.int .i64 (t : Int), .int .i64 Va] 3))).print (a := (t : Int)) (b := Va) hr2 hr3 hr4 (by simp)
  have hM1 := ((((HP.M.alloc (.cells #[.int .i64 16, .int .i64 (ia : Int), .int .i64 b, .int .i64 c] 44)).drew).alloc (.cells #[.int .i64 (t : Int), .int .i64 Va] 3)).grow (r := .prints) (m := s.prints.length + 2) (c := cap) hr3 hr4 (by simp)).put (r := .box) (g := sb) (by rw [upd_ne _ _ (by simp)]; exact HP.D.bblk) 8 (.slice (some ⟨g, 0, none⟩) (s.prints.length + 2) cap)
  have HF : Hid (∃ v', DSt (w3.setCell ⟨sb, 8, none⟩ (.slice (some ⟨g, 0, none⟩) (s.prints.length + 2) cap)) B P sb v' { stepS s t with prints := (stepS s t).prints ++ [(t : Int), Va] } ∧ Moved w (w3.setCell ⟨sb, 8, none⟩ (.slice (some ⟨g, 0, none⟩) (s.prints.length + 2) cap)) v v') := ⟨_, hD1, hM1⟩
  have hrun : (AppS #[23, 23] 23 #[.slice pa s.prints.length pcap, .slice (some ⟨w1.heap.size + 1, 0, none⟩) 2 2]).run Tryd.prog (((w1.setCell ⟨tb, t * 3, none⟩ (.int .i64 ((pc : Int) + 1))).alloc (.cells #[.int .i64 16, .int .i64 (ia : Int), .int .i64 b, .int .i64 c] 44)).alloc (.cells #[.int .i64 (t : Int), .int .i64 Va] 3)).drew = .ok (.slice (some ⟨g, 0, none⟩) (s.prints.length + 2) cap) w3 := by
    have e : ((w1.setCell ⟨tb, t * 3, none⟩ (.int .i64 ((pc : Int) + 1))).alloc (.cells #[.int .i64 16, .int .i64 (ia : Int), .int .i64 b, .int .i64 c] 44)).drew.heap.size = w1.heap.size + 1 := by simp [World.setCell]
    rw [e] at hr1
    rw [← hpv]
    exact hr1
  have k8 := cell_up c8
  have k82 := cell_up2 c8
  have c8' := (World.cell?_of_block (w := w1) (a := ⟨sb, 8, none⟩) (Below.heap_setCell _ _ _ _ HP.nst)).symm.trans c8
  obtain ⟨np, hnp⟩ : ∃ x, s.prints.length = x := ⟨_, rfl⟩
  rw [hnp] at HF hrun k8 k82 q8 c8' c8 hpr
  clear HP HPRE HNX hpv hr1 hr2 hr3 hr4 hne hD1 hM1 hWs hnp
  go_wp2
  go_region
  all_goals go_wp2
  all_goals go_end0
  all_goals obtain ⟨v2, hv2⟩ := HF.out
  all_goals refine ⟨rfl, v2, ?_⟩
  all_goals rw [HST.out]
  all_goals exact hv2
end

section
open Go.RowKit

theorem doX_order {X : Nat → Nat → Nat → Int} {mode : Int} {s : Sx} {t : Nat} : doX X mode s (8 * t) = orderX mode (stepS s t) t (opT X s t 0) (opT X s t 1) (opT X s t 2) (opT X s t 3) := by
  unfold doX
  simp only [show 8 * t / 8 = t by omega, show 8 * t % 8 = 0 by omega]
  rfl
theorem do_order (w : World) (B sb : Nat) (P : Pg) (v : Rl → Value) (s : Sx) (A : Nat → Option Addr) (L C : Nat → Nat) (X : Nat → Nat → Nat → Int) (m lk rg t : Nat) (hx : Cx w B sb P v s A L C X m lk rg t) :
    Calls Tryd.prog 81 #[.pointer (some ⟨sb, 0, none⟩), .int .i64 (8 * (t : Int))] w (DoQ B sb P v w (doX X P.mode s (8 * t))) := by
  have ht : t < P.n := hx.ht
  have hn := hx.hc.n4
  have h0 : 0 ≤ 8 * (t : Int) := by omega
  have h1 : 8 * (t : Int) ≤ 1000 := by omega
  have hq : 8 * (t : Int) / 8 = t := by omega
  have hr : 8 * (t : Int) % 8 = 0 := by omega
  rw [doX_order]
  have hop := ok_op (hx.hc.ord t (thOf s t).pc hx.ht hx.hlt)
  change 1 ≤ opT X s t 0 ∧ opT X s t 0 ≤ 18 at hop
  rcases (by omega : opT X s t 0 = 1 ∨ opT X s t 0 = 2 ∨ opT X s t 0 = 3 ∨ opT X s t 0 = 4 ∨ opT X s t 0 = 5 ∨ opT X s t 0 = 6 ∨ opT X s t 0 = 7 ∨ opT X s t 0 = 8 ∨ opT X s t 0 = 9 ∨ opT X s t 0 = 10 ∨ opT X s t 0 = 11 ∨ opT X s t 0 = 12 ∨ opT X s t 0 = 13 ∨ opT X s t 0 = 14 ∨ opT X s t 0 = 15 ∨ opT X s t 0 = 16 ∨ opT X s t 0 = 17 ∨ opT X s t 0 = 18) with h | h | h | h | h | h | h | h | h | h | h | h | h | h | h | h | h | h
  · rw [h]; exact do_1 w B sb P v s A L C X m lk rg t _ h0 h1 hq hr hx h
  · rw [h]; exact do_2 w B sb P v s A L C X m lk rg t _ h0 h1 hq hr hx h
  · rw [h]; exact do_3 w B sb P v s A L C X m lk rg t _ h0 h1 hq hr hx h
  · rw [h]; exact do_4 w B sb P v s A L C X m lk rg t _ h0 h1 hq hr hx h
  · rw [h]; exact do_5 w B sb P v s A L C X m lk rg t _ h0 h1 hq hr hx h
  · rw [h]; exact do_6 w B sb P v s A L C X m lk rg t _ h0 h1 hq hr hx h
  · rw [h]; exact do_7 w B sb P v s A L C X m lk rg t _ h0 h1 hq hr hx h
  · rw [h]; exact do_8 w B sb P v s A L C X m lk rg t _ h0 h1 hq hr hx h
  · rw [h]; exact do_9 w B sb P v s A L C X m lk rg t _ h0 h1 hq hr hx h
  · rw [h]; exact do_10 w B sb P v s A L C X m lk rg t _ h0 h1 hq hr hx h
  · rw [h]; exact do_11 w B sb P v s A L C X m lk rg t _ h0 h1 hq hr hx h
  · rw [h]; exact do_12 w B sb P v s A L C X m lk rg t _ h0 h1 hq hr hx h
  · rw [h]; exact do_13 w B sb P v s A L C X m lk rg t _ h0 h1 hq hr hx h
  · rw [h]; exact do_14 w B sb P v s A L C X m lk rg t _ h0 h1 hq hr hx h
  · rw [h]; exact do_15 w B sb P v s A L C X m lk rg t _ h0 h1 hq hr hx h
  · rw [h]; exact do_16 w B sb P v s A L C X m lk rg t _ h0 h1 hq hr hx h
  · rw [h]; exact do_17 w B sb P v s A L C X m lk rg t _ h0 h1 hq hr hx h
  · rw [h]; exact do_18 w B sb P v s A L C X m lk rg t _ h0 h1 hq hr hx h

theorem SOk.step {n : Nat} {L : Nat → Nat} {X : Nat → Nat → Nat → Int} {m lk rg : Nat} {mode : Int} {s : Sx} (h : SOk n L m lk rg mode s) (hc : COk n L X m lk rg) (hm : 0 ≤ mode) {t : Nat} (ht : t < n) (ha : ableT L X s t = true) : SOk n L m lk rg mode (doX X mode s (8 * t)) := by
  rw [doX_order]
  have hlt := able_lt ha
  have h1 : SOk n L m lk rg mode (stepS s t) := h.setPc ht (by omega)
  have htl : t < s.ths.length := by rw [h.ths]; exact ht
  exact h1.order ht hm (fun ho => by rw [stepS_wait htl]; exact able_room ha ho) (hc.ord t _ ht hlt)
theorem prints_step {X : Nat → Nat → Nat → Int} {mode : Int} {s : Sx} {t : Nat} : (doX X mode s (8 * t)).prints.length ≤ s.prints.length + 2 := by
  rw [doX_order]
  exact prints_order (stepS s t) t _ _ _ _
end

section
open Go.RowKit

/-- What can be picked can be done. -/
def DoOk (P : Pg) (A : Nat → Option Addr) (L C : Nat → Nat) (X : Nat → Nat → Nat → Int) (m lk rg : Nat) : Prop :=
  ∀ (w : World) (B sb : Nat) (v : Rl → Value) (s : Sx) (mv : Int), DSt w B P sb v s → B ≤ w.heap.size → SOk P.n L m lk rg P.mode s → PIn w P.ca P.n A L C X → s.prints.length ≤ 20000 → mv ∈ movesX L X P.mode s →
    Calls Tryd.prog 81 #[.pointer (some ⟨sb, 0, none⟩), .int .i64 mv] w (DoQ B sb P v w (doX X P.mode s mv.toNat)) ∧ SOk P.n L m lk rg P.mode (doX X P.mode s mv.toNat) ∧ (doX X P.mode s mv.toNat).prints.length ≤ s.prints.length + 2
theorem begin_ok {n : Nat} {L : Nat → Nat} {words : List Int} {lk rg : Nat} {mode : Int} : SOk n L words.length lk rg mode (beginX n words lk rg) := by
  have e : ∀ t, t < n → thOf (beginX n words lk rg) t = { pc := 0, regs := List.replicate ((rg : Int)).toNat 0, wait := [] } := fun t ht => by
    unfold thOf beginX
    simp [List.getD, ht]
  refine ⟨by simp [beginX], fun t ht => ?_, fun t ht => ?_, rfl, by simp [beginX], fun t ht => ?_, fun t ht => ?_, fun _ t ht => ?_⟩
  all_goals rw [e t ht]
  · exact Nat.zero_le _
  · simp
  · simp
  · intro x hx; cases hx
end

end Go.Proofs.YtkailbdjilkneaaDoor
