/-
  A move of the document's run: what lies ahead of a thread's order.
  Moves of the document's run: the orders that a thread's registers alone have to do with.
  Moves of the document's run: a load by a register.
-/
import Derived.Test.YtocfocjnnjdcgaaDoorRDone
import Derived.Test.YtocfocjnnjdcgaaDoorRMay
import Derived.StillTailTactics
namespace Go.Proofs.YtocfocjnnjdcgaaDoor
section
open Go.RowKit

/-- A thread that has an order more, in a run. -/
structure Cx (w : World) (B sb : Nat) (P : Pg) (v : Rl → Value) (s : Sx) (A : Nat → Option Addr) (L C : Nat → Nat) (X : Nat → Nat → Nat → Int) (m lk rg t : Nat) : Prop where
  ht : t < P.n
  hs : DSt w B P sb v s
  hB : B ≤ w.heap.size
  ho : SOk P.n L m lk rg P.mode s
  hc : COk P.n L X m lk rg
  hp : PIn w P.ca P.n A L C X
  hlt : (thOf s t).pc < L t
  hpr : s.prints.length ≤ 20000
  hm : 0 ≤ P.mode

/-- The state when the thread stands behind its order. -/
def stepS (s : Sx) (t : Nat) : Sx := setTh s t { thOf s t with pc := (thOf s t).pc + 1 }
theorem stepS_len (s : Sx) (t : Nat) : (stepS s t).ths.length = s.ths.length := ths_set _ _ _
theorem stepS_regs {s : Sx} {t : Nat} (ht : t < s.ths.length) (u : Nat) : (thOf (stepS s t) u).regs = (thOf s u).regs := by
  unfold stepS
  rw [thOf_set ht]
  split
  · rename_i h; rw [h]
  · rfl
theorem stepS_wait {s : Sx} {t : Nat} (ht : t < s.ths.length) (u : Nat) : (thOf (stepS s t) u).wait = (thOf s u).wait := by
  unfold stepS
  rw [thOf_set ht]
  split
  · rename_i h; rw [h]
  · rfl
theorem stepS_getR {s : Sx} {t : Nat} (ht : t < s.ths.length) (u : Nat) (r : Int) : getR (stepS s t) u r = getR s u r := by
  unfold getR
  rw [stepS_regs ht]
theorem stepS_finds {s : Sx} {t : Nat} (ht : t < s.ths.length) (u : Nat) (r : Int) : findsW (stepS s t) u r = findsW s u r := by
  unfold findsW
  rw [stepS_wait ht]
  rfl

theorem stepS_jump {s : Sx} {t : Nat} (ht : t < s.ths.length) (k : Nat) : setTh (stepS s t) t { thOf (stepS s t) t with pc := k } = setTh s t { thOf s t with pc := k } := by
  have e : thOf (stepS s t) t = { thOf s t with pc := (thOf s t).pc + 1 } := by unfold stepS; rw [thOf_set ht, if_pos rfl]
  rw [e]
  unfold stepS setTh
  simp

/-- What is known in w1, behind the look at the next order. -/
structure Pre (w w1 : World) (B sb : Nat) (P : Pg) (v : Rl → Value) (s : Sx) (t n tb tc rb rc rg pc : Nat) : Prop where
  c5 : w1.cell? ⟨sb, 5, none⟩ = some (.slice (some ⟨tb, 0, none⟩) n tc)
  cp : w1.cell? ⟨tb, t * 3, none⟩ = some (.int .i64 pc)
  cf : w1.frozen? ⟨tb, t * 3, none⟩ = false
  cr : w1.cell? ⟨tb, t * 3 + 1, none⟩ = some (.slice (some ⟨rb, 0, none⟩) rg rc)
  D : DSt (w1.setCell ⟨tb, t * 3, none⟩ (.int .i64 ((pc : Int) + 1))) B P sb v (stepS s t)
  M : Moved w (w1.setCell ⟨tb, t * 3, none⟩ (.int .i64 ((pc : Int) + 1))) v v
  btb : (v .thr).ownBlock = some tb
  brb : (v (.regs t)).ownBlock = some rb
  lsb : sb < w1.heap.size
  ltb : tb < w1.heap.size
  lrb : rb < w1.heap.size
  ntr : tb ≠ rb
  nrt : rb ≠ tb
  nst : sb ≠ tb
  nts : tb ≠ sb
  nsr : sb ≠ rb
  nrs : rb ≠ sb

theorem Cx.pre {w : World} {B sb : Nat} {P : Pg} {v : Rl → Value} {s : Sx} {A : Nat → Option Addr} {L C : Nat → Nat} {X : Nat → Nat → Nat → Int} {m lk rg t : Nat} (h : Cx w B sb P v s A L C X m lk rg t) :
    ∃ n tb tc rb rc pc : Nat, (t < n ∧ n ≤ 4 ∧ pc ≤ 1000) ∧ Hid ((thOf s t).pc = pc) ∧ w.cell? ⟨sb, 5, none⟩ = some (.slice (some ⟨tb, 0, none⟩) n tc) ∧
      Hid (Calls Tryd.prog 93 #[.pointer (some ⟨sb, 0, none⟩), .int .i64 t] w fun e w' => e = .returned (.tuple #[.agg #[.int .i64 (opT X s t 0), .int .i64 (opT X s t 1), .int .i64 (opT X s t 2), .int .i64 (opT X s t 3)], .bool true]) ∧ Below w.heap.size w w') ∧
      Hid (∀ w1, Below w.heap.size w w1 → Pre w w1 B sb P v s t n tb tc rb rc rg pc) := by
  obtain ⟨ht, hs, hB, ho, hc, hp, hlt, _, _⟩ := h
  have hl := ho.ths
  have hN := hc.n4
  have hL := hc.L4 t ht
  have htl : t < s.ths.length := by omega
  have hrl := ho.regs t ht
  have hr0 := hc.rg0
  obtain ⟨tb, tc, hth, htb, hlt1⟩ := hs.thrB (by omega)
  obtain ⟨rb, rc, hrv, hrb, hlt2⟩ := hs.regsB (t := t) (by omega)
  have c5 := hs.c5
  rw [hth, hl] at c5
  have cr := hs.regs htb htl
  rw [hrv, hrl] at cr
  refine ⟨P.n, tb, tc, rb, rc, (thOf s t).pc, ⟨ht, hN, by omega⟩, rfl, c5, next_more sb P.ca P.n P.cc P.mode tb tc _ _ _ _ _ s A L C X hl t ht hN hL hlt w (hs.sin hth) hp, fun w1 hb => ?_⟩
  have hs1 := hs.below hb
  have hD := hs1.setPc htb htl ((thOf s t).pc + 1)
  have e : (((thOf s t).pc + 1 : Nat) : Int) = ((thOf s t).pc : Int) + 1 := by omega
  rw [e] at hD
  exact ⟨(hb.cell (lt_of_cell c5)).trans c5, hs1.pc htb htl, hs1.fam.frozen htb _, (hb.cell (lt_of_cell cr)).trans cr, hD, (Moved.of_below hb).put htb _ _, htb, hrb, Nat.lt_of_lt_of_le (lt_of_cell c5) hb.size, Nat.lt_of_lt_of_le hlt1 hb.size, Nat.lt_of_lt_of_le hlt2 hb.size,
    hs.fam.ne htb hrb (by simp), hs.fam.ne hrb htb (by simp), hs.fam.ne hs.bblk htb (by simp), hs.fam.ne htb hs.bblk (by simp), hs.fam.ne hs.bblk hrb (by simp), hs.fam.ne hrb hs.bblk (by simp)⟩

theorem setCell_up {w : World} {a : Addr} {u : Value} {o : Obj} (ha : a.block < w.heap.size) : (w.alloc o).setCell a u = (w.setCell a u).alloc o := by
  unfold World.setCell World.alloc
  simp only
  congr 1
  apply Array.ext_getElem?
  intro i
  simp only [Array.getElem?_modify, Array.getElem?_push, Array.size_modify]
  by_cases h : a.block = i
  · subst h
    have h1 : ¬ a.block = w.heap.size := by omega
    simp [h1]
  · simp only [if_neg h]
theorem setCell_heap {w w1 : World} {a : Addr} {u : Value} (h : w.heap = w1.heap) : (w.setCell a u).heap = (w1.setCell a u).heap := by simp only [World.setCell, h]
theorem DSt.same {w w1 : World} {B : Nat} {P : Pg} {sb : Nat} {v : Rl → Value} {s : Sx} (h : DSt w B P sb v s) (e : w1.heap = w.heap) : DSt w1 B P sb v s :=
  ⟨⟨fun r => fam_keeps (h.fam.own r) (fun g _ => by rw [e]), h.fam.apart⟩, h.box⟩
theorem Moved.same {ι : Type} {w w1 w2 : World} {v v1 : ι → Value} (h : Moved w w1 v v1) (e : w2.heap = w1.heap) (e1 : w2.os = w1.os) (e2 : w2.tape = w1.tape) (e3 : w2.output = w1.output) : Moved w w2 v v1 :=
  ⟨e1.trans h.os, e2.trans h.tape, e3.trans h.output, by rw [e]; exact h.size, fun k hk hr => by rw [e]; exact h.block k hk hr, h.fresh⟩
theorem finds_D (w : World) (B sb : Nat) (P : Pg) (v : Rl → Value) (s : Sx) (t wd : Nat) (hs : DSt w B P sb v s) (ht : t < s.ths.length) (hn : s.ths.length ≤ 4) (hw : wd < s.words.length) (hwl : s.words.length ≤ 64) (hwt : (thOf s t).wait.length ≤ 3) :
    Calls Tryd.prog 98 #[.pointer (some ⟨sb, 0, none⟩), .int .i64 t, .int .i64 wd] w fun e w' => e = .returned (.int .i64 (findsW s t wd)) ∧ w' = w := by
  obtain ⟨tb, tc, hth, htb, _⟩ := hs.thrB (by omega)
  obtain ⟨gb, gc, hgv, hgb, _⟩ := hs.wordsB (by omega)
  obtain ⟨qa, qc, hq⟩ := hs.waitV t
  have c5 := hs.c5
  rw [hth] at c5
  have c6 := hs.c6
  rw [hgv] at c6
  have cq := hs.wait htb ht
  rw [hq] at cq
  exact finds_any sb tb s.ths.length tc _ qa qc gc s t wd ht hn hw hwl (thOf s t).wait rfl (by omega) w c5 c6 ⟨gb, 0, rfl, by simpa using hs.word hgb hw⟩ cq (hs.win hq)
theorem store_any (w : World) (B sb : Nat) (P : Pg) (v : Rl → Value) (s : Sx) (t : Nat) (x : Wt) (hs : DSt w B P sb v s) (hB : B ≤ w.heap.size) (hm : 0 ≤ P.mode) (ht : t < s.ths.length) (hn4 : s.ths.length ≤ 4) (hw3 : (thOf s t).wait.length ≤ 3) (h0 : 0 ≤ x.wh) (hx : x.wh < (if x.lk then s.own.length else s.words.length : Nat)) (hwl : s.words.length ≤ 64) (hol : s.own.length ≤ 4) :
    Calls Tryd.prog 99 #[.pointer (some ⟨sb, 0, none⟩), .int .i64 t, .agg #[.bool x.lk, .int .i64 x.wh, .int .i64 x.what]] w fun e w' => e = .returned (.tuple #[]) ∧ ∃ v', DSt w' B P sb v' (storeW P.mode s t x) ∧ Moved w w' v v' := by
  rcases (by omega : P.mode = 0 ∨ 0 < P.mode) with h | h
  · exact (store_zero w B sb P v s t x hs h h0 hx hwl hol).mono fun e w' ⟨h1, h2, h3⟩ => ⟨h1, v, h2, h3⟩
  · exact store_more w B sb P v s t x hs hB h ht hn4 hw3

/-- What a move's call must come to. -/
def DoQ (B sb : Nat) (P : Pg) (v : Rl → Value) (w : World) (s' : Sx) (e : Ending) (w' : World) : Prop := e = .returned (.tuple #[]) ∧ ∃ v', DSt w' B P sb v' s' ∧ Moved w w' v v'
/-- A register behind the place's store, in whatever memory is made then. -/
theorem Pre.reg {w w1 : World} {B sb : Nat} {P : Pg} {v : Rl → Value} {s : Sx} {t n tb tc rb rc rg pc : Nat} (h : Pre w w1 B sb P v s t n tb tc rb rc rg pc) (ht : t < s.ths.length) {r : Nat} (hr : r < (thOf s t).regs.length) : (w1.setCell ⟨tb, t * 3, none⟩ (.int .i64 ((pc : Int) + 1))).cell? ⟨rb, r, none⟩ = some (.int .i64 (getR s t r)) := by
  have := h.D.reg h.brb (r := r) (by rw [stepS_regs ht]; exact hr)
  rwa [stepS_getR ht] at this
theorem Pre.regW {w w1 : World} {B sb : Nat} {P : Pg} {v : Rl → Value} {s : Sx} {t n tb tc rb rc rg pc : Nat} (h : Pre w w1 B sb P v s t n tb tc rb rc rg pc) (ht : t < s.ths.length) {r : Nat} (hr : r < (thOf s t).regs.length) : w1.cell? ⟨rb, r, none⟩ = some (.int .i64 (getR s t r)) := by
  have := h.reg ht hr
  rw [World.cell?_of_block (w := w1) (Below.heap_setCell _ _ _ _ h.nrt)] at this
  exact this
theorem Pre.frz {w w1 : World} {B sb : Nat} {P : Pg} {v : Rl → Value} {s : Sx} {t n tb tc rb rc rg pc : Nat} (h : Pre w w1 B sb P v s t n tb tc rb rc rg pc) (r : Nat) : w1.frozen? ⟨rb, r, none⟩ = false := by
  have := h.D.fam.frozen h.brb r
  rw [World.frozen?_of_block (w := w1) (Below.heap_setCell _ _ _ _ h.nrt)] at this
  exact this
theorem Pre.fin {w w1 : World} {B sb : Nat} {P : Pg} {v : Rl → Value} {s : Sx} {t n tb tc rb rc rg pc : Nat} (h : Pre w w1 B sb P v s t n tb tc rb rc rg pc) (ht : t < s.ths.length) (r : Nat) (x : Int) :
    DSt ((w1.setCell ⟨tb, t * 3, none⟩ (.int .i64 ((pc : Int) + 1))).setCell ⟨rb, r, none⟩ (.int .i64 x)) B P sb v (setR (stepS s t) t r x) ∧ Moved w ((w1.setCell ⟨tb, t * 3, none⟩ (.int .i64 ((pc : Int) + 1))).setCell ⟨rb, r, none⟩ (.int .i64 x)) v v :=
  ⟨h.D.setReg h.brb (by rw [stepS_len]; exact ht) r x, h.M.put h.brb r _⟩
end

section
open Go.RowKit

set_option maxRecDepth 100000 in
set_option maxHeartbeats 3200000 in
theorem do_1 (w : World) (B sb : Nat) (P : Pg) (v : Rl → Value) (s : Sx) (A : Nat → Option Addr) (L C : Nat → Nat) (X : Nat → Nat → Nat → Int) (m lk rg t : Nat) (mv : Int) (_h0 : 0 ≤ mv) (_h1 : mv ≤ 1000) (hq : mv / 8 = t) (hr : mv % 8 = 0) (hx : Cx w B sb P v s A L C X m lk rg t) (hop : opT X s t 0 = 1) :
    Calls Tryd.prog 80 #[.pointer (some ⟨sb, 0, none⟩), .int .i64 mv] w (DoQ B sb P v w (orderX P.mode (stepS s t) t 1 (opT X s t 1) (opT X s t 2) (opT X s t 3))) := by
  obtain ⟨n, tb, tc, rb, rc, pc, ⟨htn, hn4, hpc4⟩, HPC, c5, HNX, HPRE⟩ := hx.pre
  have htl : t < s.ths.length := by have := hx.ho.ths; have := hx.ht; omega
  have hrl : (thOf s t).regs.length = rg := hx.ho.regs t hx.ht
  have hord := hx.hc.ord t (thOf s t).pc hx.ht hx.hlt
  have hsz := hx.hc.L4 t hx.ht
  have hrg2 := hx.hc.rg2
  change ordE rg m lk (L t) (opT X s t 0) (opT X s t 1) (opT X s t 2) (opT X s t 3) = 0 at hord
  rw [hop] at hord
  rw [hop] at HNX
  obtain ⟨a, ea⟩ : ∃ x, opT X s t 1 = x := ⟨_, rfl⟩
  obtain ⟨b, eb⟩ : ∃ x, opT X s t 2 = x := ⟨_, rfl⟩
  obtain ⟨c, ec⟩ : ∃ x, opT X s t 3 = x := ⟨_, rfl⟩
  rw [ea, eb, ec] at hord HNX ⊢
  clear ea eb ec
  obtain ⟨ia, rfl, ha⟩ := toN (ok_const hord)
  have HST : Hid (orderX P.mode (stepS s t) t 1 (ia : Int) b c = setR (stepS s t) t (ia : Int) (b)) := by
    show setR (stepS s t) t (ia : Int) _ = _
    rfl
  have HX := Hid.out (p := Hid _) hx
  clear hx hord hop hsz
  go_enter Tryd.func80, Tryd.ntmps80
  go_wp2_with fail
  refine Calls.mono HNX.out ?_
  rintro e w1 ⟨rfl, hb1⟩
  have HP := HPRE.out w1 hb1
  have d5 := HP.c5
  have dp := HP.cp
  have df := HP.cf
  have dr := HP.cr
  have nrt := HP.nrt
  have ntr := HP.ntr
  have lrb := HP.lrb
  have ltb := HP.ltb
  have fa := HP.frz ia
  have wa := HP.regW htl (r := ia) (by omega)
  obtain ⟨VA, eA⟩ : ∃ x, getR s t (ia : Int) = x := ⟨_, rfl⟩
  rw [eA] at wa
  clear eA
  have HF := Hid.out (p := Hid _) (HP.fin htl ia (b))
  clear HP HPRE HNX
  go_wp2
  go_end0
  refine ⟨rfl, v, ?_⟩
  rw [HST.out]
  exact ⟨HF.out.1.alloc _, HF.out.2.alloc _⟩

set_option maxRecDepth 100000 in
set_option maxHeartbeats 3200000 in
theorem do_2 (w : World) (B sb : Nat) (P : Pg) (v : Rl → Value) (s : Sx) (A : Nat → Option Addr) (L C : Nat → Nat) (X : Nat → Nat → Nat → Int) (m lk rg t : Nat) (mv : Int) (_h0 : 0 ≤ mv) (_h1 : mv ≤ 1000) (hq : mv / 8 = t) (hr : mv % 8 = 0) (hx : Cx w B sb P v s A L C X m lk rg t) (hop : opT X s t 0 = 2) :
    Calls Tryd.prog 80 #[.pointer (some ⟨sb, 0, none⟩), .int .i64 mv] w (DoQ B sb P v w (orderX P.mode (stepS s t) t 2 (opT X s t 1) (opT X s t 2) (opT X s t 3))) := by
  obtain ⟨n, tb, tc, rb, rc, pc, ⟨htn, hn4, hpc4⟩, HPC, c5, HNX, HPRE⟩ := hx.pre
  have htl : t < s.ths.length := by have := hx.ho.ths; have := hx.ht; omega
  have hrl : (thOf s t).regs.length = rg := hx.ho.regs t hx.ht
  have hord := hx.hc.ord t (thOf s t).pc hx.ht hx.hlt
  have hsz := hx.hc.L4 t hx.ht
  have hrg2 := hx.hc.rg2
  change ordE rg m lk (L t) (opT X s t 0) (opT X s t 1) (opT X s t 2) (opT X s t 3) = 0 at hord
  rw [hop] at hord
  rw [hop] at HNX
  obtain ⟨a, ea⟩ : ∃ x, opT X s t 1 = x := ⟨_, rfl⟩
  obtain ⟨b, eb⟩ : ∃ x, opT X s t 2 = x := ⟨_, rfl⟩
  obtain ⟨c, ec⟩ : ∃ x, opT X s t 3 = x := ⟨_, rfl⟩
  rw [ea, eb, ec] at hord HNX ⊢
  clear ea eb ec
  obtain ⟨⟨ia, rfl, ha⟩, ⟨ib, rfl, hb⟩⟩ := by
    have h3 := ok_rr (by omega) hord
    exact (⟨toN h3.1, toN h3.2⟩ : _ ∧ _)
  have HST : Hid (orderX P.mode (stepS s t) t 2 (ia : Int) (ib : Int) c = setR (stepS s t) t (ia : Int) (getR s t (ib : Int))) := by
    show setR (stepS s t) t (ia : Int) _ = _
    simp only [stepS_getR htl]
  obtain ⟨Vb, eb⟩ : ∃ x, getR s t (ib : Int) = x := ⟨_, rfl⟩
  have HVb : Hid (getR s t (ib : Int) = Vb) := eb
  rw [eb] at HST
  clear eb
  have HX := Hid.out (p := Hid _) hx
  clear hx hord hop hsz
  go_enter Tryd.func80, Tryd.ntmps80
  go_wp2_with fail
  refine Calls.mono HNX.out ?_
  rintro e w1 ⟨rfl, hb1⟩
  have HP := HPRE.out w1 hb1
  have d5 := HP.c5
  have dp := HP.cp
  have df := HP.cf
  have dr := HP.cr
  have nrt := HP.nrt
  have ntr := HP.ntr
  have lrb := HP.lrb
  have ltb := HP.ltb
  have fa := HP.frz ia
  have wa := HP.regW htl (r := ia) (by omega)
  have wb := HP.regW htl (r := ib) (by omega)
  rw [HVb.out] at wb
  obtain ⟨VA, eA⟩ : ∃ x, getR s t (ia : Int) = x := ⟨_, rfl⟩
  rw [eA] at wa
  clear eA
  have HF := Hid.out (p := Hid _) (HP.fin htl ia (Vb))
  clear HP HPRE HNX
  go_wp2
  refine region_tail 9 (by kernel_rfl) (by kernel_rfl) ?_
  simp only [List.take_succ_cons, List.take_zero, List.drop_succ_cons, List.drop_zero]
  repeat still_step
  refine wpStill_nil ?_
  all_goals go_wp2
  all_goals go_end0
  all_goals refine ⟨rfl, v, ?_⟩
  all_goals rw [HST.out]
  all_goals exact ⟨(HF.out.1.alloc _).drew, (HF.out.2.alloc _).drew⟩

set_option maxRecDepth 100000 in
set_option maxHeartbeats 3200000 in
theorem do_3 (w : World) (B sb : Nat) (P : Pg) (v : Rl → Value) (s : Sx) (A : Nat → Option Addr) (L C : Nat → Nat) (X : Nat → Nat → Nat → Int) (m lk rg t : Nat) (mv : Int) (_h0 : 0 ≤ mv) (_h1 : mv ≤ 1000) (hq : mv / 8 = t) (hr : mv % 8 = 0) (hx : Cx w B sb P v s A L C X m lk rg t) (hop : opT X s t 0 = 3) :
    Calls Tryd.prog 80 #[.pointer (some ⟨sb, 0, none⟩), .int .i64 mv] w (DoQ B sb P v w (orderX P.mode (stepS s t) t 3 (opT X s t 1) (opT X s t 2) (opT X s t 3))) := by
  obtain ⟨n, tb, tc, rb, rc, pc, ⟨htn, hn4, hpc4⟩, HPC, c5, HNX, HPRE⟩ := hx.pre
  have htl : t < s.ths.length := by have := hx.ho.ths; have := hx.ht; omega
  have hrl : (thOf s t).regs.length = rg := hx.ho.regs t hx.ht
  have hord := hx.hc.ord t (thOf s t).pc hx.ht hx.hlt
  have hsz := hx.hc.L4 t hx.ht
  have hrg2 := hx.hc.rg2
  change ordE rg m lk (L t) (opT X s t 0) (opT X s t 1) (opT X s t 2) (opT X s t 3) = 0 at hord
  rw [hop] at hord
  rw [hop] at HNX
  obtain ⟨a, ea⟩ : ∃ x, opT X s t 1 = x := ⟨_, rfl⟩
  obtain ⟨b, eb⟩ : ∃ x, opT X s t 2 = x := ⟨_, rfl⟩
  obtain ⟨c, ec⟩ : ∃ x, opT X s t 3 = x := ⟨_, rfl⟩
  rw [ea, eb, ec] at hord HNX ⊢
  clear ea eb ec
  obtain ⟨⟨ia, rfl, ha⟩, ⟨ib, rfl, hb⟩, ⟨ic, rfl, hc⟩⟩ := by
    have h3 := ok_rrr (by omega) hord
    exact (⟨toN h3.1, toN h3.2.1, toN h3.2.2⟩ : _ ∧ _ ∧ _)
  have HST : Hid (orderX P.mode (stepS s t) t 3 (ia : Int) (ib : Int) (ic : Int) = setR (stepS s t) t (ia : Int) (wrap64 (getR s t (ib : Int) + getR s t (ic : Int)))) := by
    show setR (stepS s t) t (ia : Int) _ = _
    simp only [stepS_getR htl, IntWalk.i64_left]
  obtain ⟨Vb, eb⟩ : ∃ x, getR s t (ib : Int) = x := ⟨_, rfl⟩
  have HVb : Hid (getR s t (ib : Int) = Vb) := eb
  obtain ⟨Vc, ec⟩ : ∃ x, getR s t (ic : Int) = x := ⟨_, rfl⟩
  have HVc : Hid (getR s t (ic : Int) = Vc) := ec
  rw [eb, ec] at HST
  clear eb ec
  have HX := Hid.out (p := Hid _) hx
  clear hx hord hop hsz
  go_enter Tryd.func80, Tryd.ntmps80
  go_wp2_with fail
  refine Calls.mono HNX.out ?_
  rintro e w1 ⟨rfl, hb1⟩
  have HP := HPRE.out w1 hb1
  have d5 := HP.c5
  have dp := HP.cp
  have df := HP.cf
  have dr := HP.cr
  have nrt := HP.nrt
  have ntr := HP.ntr
  have lrb := HP.lrb
  have ltb := HP.ltb
  have fa := HP.frz ia
  have wa := HP.regW htl (r := ia) (by omega)
  have wb := HP.regW htl (r := ib) (by omega)
  rw [HVb.out] at wb
  have wc := HP.regW htl (r := ic) (by omega)
  rw [HVc.out] at wc
  obtain ⟨VA, eA⟩ : ∃ x, getR s t (ia : Int) = x := ⟨_, rfl⟩
  rw [eA] at wa
  clear eA
  have HF := Hid.out (p := Hid _) (HP.fin htl ia (wrap64 (Vb + Vc)))
  clear HP HPRE HNX
  go_wp2
  refine region_tail 15 (by kernel_rfl) (by kernel_rfl) ?_
  simp only [List.take_succ_cons, List.take_zero, List.drop_succ_cons, List.drop_zero]
  repeat still_step
  refine wpStill_nil ?_
  all_goals go_wp2
  all_goals go_end0
  all_goals refine ⟨rfl, v, ?_⟩
  all_goals rw [HST.out]
  all_goals exact ⟨(HF.out.1.alloc _).drew, (HF.out.2.alloc _).drew⟩

set_option maxRecDepth 100000 in
set_option maxHeartbeats 3200000 in
theorem do_4 (w : World) (B sb : Nat) (P : Pg) (v : Rl → Value) (s : Sx) (A : Nat → Option Addr) (L C : Nat → Nat) (X : Nat → Nat → Nat → Int) (m lk rg t : Nat) (mv : Int) (_h0 : 0 ≤ mv) (_h1 : mv ≤ 1000) (hq : mv / 8 = t) (hr : mv % 8 = 0) (hx : Cx w B sb P v s A L C X m lk rg t) (hop : opT X s t 0 = 4) :
    Calls Tryd.prog 80 #[.pointer (some ⟨sb, 0, none⟩), .int .i64 mv] w (DoQ B sb P v w (orderX P.mode (stepS s t) t 4 (opT X s t 1) (opT X s t 2) (opT X s t 3))) := by
  obtain ⟨n, tb, tc, rb, rc, pc, ⟨htn, hn4, hpc4⟩, HPC, c5, HNX, HPRE⟩ := hx.pre
  have htl : t < s.ths.length := by have := hx.ho.ths; have := hx.ht; omega
  have hrl : (thOf s t).regs.length = rg := hx.ho.regs t hx.ht
  have hord := hx.hc.ord t (thOf s t).pc hx.ht hx.hlt
  have hsz := hx.hc.L4 t hx.ht
  have hrg2 := hx.hc.rg2
  change ordE rg m lk (L t) (opT X s t 0) (opT X s t 1) (opT X s t 2) (opT X s t 3) = 0 at hord
  rw [hop] at hord
  rw [hop] at HNX
  obtain ⟨a, ea⟩ : ∃ x, opT X s t 1 = x := ⟨_, rfl⟩
  obtain ⟨b, eb⟩ : ∃ x, opT X s t 2 = x := ⟨_, rfl⟩
  obtain ⟨c, ec⟩ : ∃ x, opT X s t 3 = x := ⟨_, rfl⟩
  rw [ea, eb, ec] at hord HNX ⊢
  clear ea eb ec
  obtain ⟨⟨ia, rfl, ha⟩, ⟨ib, rfl, hb⟩, ⟨ic, rfl, hc⟩⟩ := by
    have h3 := ok_rrr (by omega) hord
    exact (⟨toN h3.1, toN h3.2.1, toN h3.2.2⟩ : _ ∧ _ ∧ _)
  have HST : Hid (orderX P.mode (stepS s t) t 4 (ia : Int) (ib : Int) (ic : Int) = setR (stepS s t) t (ia : Int) (wrap64 (getR s t (ib : Int) - getR s t (ic : Int)))) := by
    show setR (stepS s t) t (ia : Int) _ = _
    simp only [stepS_getR htl, IntWalk.i64_left]
  obtain ⟨Vb, eb⟩ : ∃ x, getR s t (ib : Int) = x := ⟨_, rfl⟩
  have HVb : Hid (getR s t (ib : Int) = Vb) := eb
  obtain ⟨Vc, ec⟩ : ∃ x, getR s t (ic : Int) = x := ⟨_, rfl⟩
  have HVc : Hid (getR s t (ic : Int) = Vc) := ec
  rw [eb, ec] at HST
  clear eb ec
  have HX := Hid.out (p := Hid _) hx
  clear hx hord hop hsz
  go_enter Tryd.func80, Tryd.ntmps80
  go_wp2_with fail
  refine Calls.mono HNX.out ?_
  rintro e w1 ⟨rfl, hb1⟩
  have HP := HPRE.out w1 hb1
  have d5 := HP.c5
  have dp := HP.cp
  have df := HP.cf
  have dr := HP.cr
  have nrt := HP.nrt
  have ntr := HP.ntr
  have lrb := HP.lrb
  have ltb := HP.ltb
  have fa := HP.frz ia
  have wa := HP.regW htl (r := ia) (by omega)
  have wb := HP.regW htl (r := ib) (by omega)
  rw [HVb.out] at wb
  have wc := HP.regW htl (r := ic) (by omega)
  rw [HVc.out] at wc
  obtain ⟨VA, eA⟩ : ∃ x, getR s t (ia : Int) = x := ⟨_, rfl⟩
  rw [eA] at wa
  clear eA
  have HF := Hid.out (p := Hid _) (HP.fin htl ia (wrap64 (Vb - Vc)))
  clear HP HPRE HNX
  go_wp2
  refine region_tail 15 (by kernel_rfl) (by kernel_rfl) ?_
  simp only [List.take_succ_cons, List.take_zero, List.drop_succ_cons, List.drop_zero]
  repeat still_step
  refine wpStill_nil ?_
  all_goals go_wp2
  all_goals go_end0
  all_goals refine ⟨rfl, v, ?_⟩
  all_goals rw [HST.out]
  all_goals exact ⟨(HF.out.1.alloc _).drew, (HF.out.2.alloc _).drew⟩
end

section
open Go.RowKit

set_option maxRecDepth 100000 in
set_option maxHeartbeats 3200000 in
theorem do_10 (w : World) (B sb : Nat) (P : Pg) (v : Rl → Value) (s : Sx) (A : Nat → Option Addr) (L C : Nat → Nat) (X : Nat → Nat → Nat → Int) (m lk rg t : Nat) (mv : Int) (_h0 : 0 ≤ mv) (_h1 : mv ≤ 1000) (hq : mv / 8 = t) (hr : mv % 8 = 0) (hx : Cx w B sb P v s A L C X m lk rg t) (hop : opT X s t 0 = 10) :
    Calls Tryd.prog 80 #[.pointer (some ⟨sb, 0, none⟩), .int .i64 mv] w (DoQ B sb P v w (orderX P.mode (stepS s t) t 10 (opT X s t 1) (opT X s t 2) (opT X s t 3))) := by
  obtain ⟨n, tb, tc, rb, rc, pc, ⟨htn, hn4, hpc4⟩, HPC, c5, HNX, HPRE⟩ := hx.pre
  have htl : t < s.ths.length := by have := hx.ho.ths; have := hx.ht; omega
  have hrl : (thOf s t).regs.length = rg := hx.ho.regs t hx.ht
  have hord := hx.hc.ord t (thOf s t).pc hx.ht hx.hlt
  have hsz := hx.hc.L4 t hx.ht
  have hrg2 := hx.hc.rg2
  change ordE rg m lk (L t) (opT X s t 0) (opT X s t 1) (opT X s t 2) (opT X s t 3) = 0 at hord
  rw [hop] at hord
  rw [hop] at HNX
  obtain ⟨a, ea⟩ : ∃ x, opT X s t 1 = x := ⟨_, rfl⟩
  obtain ⟨b, eb⟩ : ∃ x, opT X s t 2 = x := ⟨_, rfl⟩
  obtain ⟨c, ec⟩ : ∃ x, opT X s t 3 = x := ⟨_, rfl⟩
  rw [ea, eb, ec] at hord HNX ⊢
  clear ea eb ec
  obtain ⟨⟨ia, rfl, ha⟩, ⟨ib, rfl, hb⟩⟩ := by
    have h3 := ok_rr (by omega) hord
    exact (⟨toN h3.1, toN h3.2⟩ : _ ∧ _)
  have hwl : s.words.length = m := hx.ho.words
  have hol : s.own.length = lk := hx.ho.own
  have hm64 := hx.hc.m64
  have hlk4 := hx.hc.lk4
  have hw3 := hx.ho.wlen t hx.ht
  have hthn := hx.ho.ths
  have hpn4 := hx.hc.n4
  have hsl : (stepS s t).ths.length = s.ths.length := stepS_len s t
  have hsw : (thOf (stepS s t) t).wait.length ≤ 3 := by rw [stepS_wait htl]; exact hw3
  obtain ⟨Vb, eb⟩ : ∃ x, getR s t (ib : Int) = x := ⟨_, rfl⟩
  have HVb : Hid (getR s t (ib : Int) = Vb) := eb
  have hBs := hx.hs.fam
  clear eb
  by_cases hin : 0 ≤ Vb ∧ Vb < (s.words.length : Int)
  · obtain ⟨wd, rfl, hwd⟩ := toN hin
    have HST : Hid (orderX P.mode (stepS s t) t 10 (ia : Int) (ib : Int) c = setR (stepS s t) t (ia : Int) (findsW s t (wd : Int))) := by
      show (if getR (stepS s t) t (ib : Int) < 0 ∨ ((stepS s t).words.length : Int) ≤ getR (stepS s t) t (ib : Int) then _ else _) = _
      rw [stepS_getR htl, HVb.out, if_neg (by show ¬ ((wd : Int) < 0 ∨ (s.words.length : Int) ≤ (wd : Int)); omega), stepS_finds htl]
    have HX := Hid.out (p := Hid _) hx
    clear hx hord hop hsz hBs hin
    go_enter Tryd.func80, Tryd.ntmps80
    go_wp2_with fail
    refine Calls.mono HNX.out ?_
    rintro e w1 ⟨rfl, hb1⟩
    have HP := HPRE.out w1 hb1
    have d5 := HP.c5
    have dp := HP.cp
    have df := HP.cf
    have dr := HP.cr
    have nrt := HP.nrt
    have ntr := HP.ntr
    have lrb := HP.lrb
    have ltb := HP.ltb
    have fa := HP.frz ia
    have wa := HP.regW htl (r := ia) (by omega)
    obtain ⟨VA, eA⟩ : ∃ x, getR s t (ia : Int) = x := ⟨_, rfl⟩
    rw [eA] at wa
    clear eA
    have wb := HP.regW htl (r := ib) (by omega)
    rw [HVb.out] at wb
    have HF := Hid.out (p := Hid _) (HP.fin htl ia (findsW s t (wd : Int)))
    have HC : Hid (∀ o, Calls Tryd.prog 98 #[.pointer (some ⟨sb, 0, none⟩), .int .i64 t, .int .i64 (wd : Int)] ((w1.setCell ⟨tb, t * 3, none⟩ (.int .i64 ((pc : Int) + 1))).alloc o).drew fun e w' => e = .returned (.int .i64 (findsW s t (wd : Int))) ∧ w' = ((w1.setCell ⟨tb, t * 3, none⟩ (.int .i64 ((pc : Int) + 1))).alloc o).drew) := fun o => by
      have := finds_D _ B sb P v (stepS s t) t wd ((HP.D.alloc o).drew) (by rw [hsl]; exact htl) (by rw [hsl]; omega) (by show wd < s.words.length; omega) (by show s.words.length ≤ 64; omega) hsw
      rwa [stepS_finds htl] at this
    have HWD : Hid (∀ o, Calls Tryd.prog 100 #[.pointer (some ⟨sb, 0, none⟩), .int .i64 (wd : Int)] ((w1.setCell ⟨tb, t * 3, none⟩ (.int .i64 ((pc : Int) + 1))).alloc o) fun e w' => e = .returned (.bool true) ∧ ((w1.setCell ⟨tb, t * 3, none⟩ (.int .i64 ((pc : Int) + 1))).alloc o) = w') := fun o =>
      word_yes _ B sb P v (stepS s t) (wd : Int) (HP.D.alloc o) (by show s.words.length ≤ 64; omega) (by show 0 ≤ (wd : Int) ∧ (wd : Int) < (s.words.length : Int); omega)
    clear HP HPRE HNX
    go_wp2_with fail
    refine Calls.mono (HWD.out _) ?_
    rintro e w2 ⟨rfl, rfl⟩
    go_wp2
    refine region_tail 12 (by kernel_rfl) (by kernel_rfl) ?_
    simp only [List.take_succ_cons, List.take_zero, List.drop_succ_cons, List.drop_zero]
    repeat still_step
    still_call (HC.out _)
    repeat still_step
    refine wpStill_nil ?_
    go_wp2
    all_goals go_end0
    all_goals refine ⟨rfl, v, ?_⟩
    all_goals rw [HST.out]
    all_goals exact ⟨DSt.same (HF.out.1.alloc _) rfl, Moved.same (HF.out.2.alloc _) rfl rfl rfl rfl⟩
  · have HST : Hid (orderX P.mode (stepS s t) t 10 (ia : Int) (ib : Int) c = fallX (stepS s t)) := by
      show (if getR (stepS s t) t (ib : Int) < 0 ∨ ((stepS s t).words.length : Int) ≤ getR (stepS s t) t (ib : Int) then _ else _) = _
      rw [stepS_getR htl, HVb.out, if_pos (by show Vb < 0 ∨ (s.words.length : Int) ≤ Vb; omega)]
    have HX := Hid.out (p := Hid _) hx
    clear hx hord hop hsz hBs
    go_enter Tryd.func80, Tryd.ntmps80
    go_wp2_with fail
    refine Calls.mono HNX.out ?_
    rintro e w1 ⟨rfl, hb1⟩
    have HP := HPRE.out w1 hb1
    have d5 := HP.c5
    have dp := HP.cp
    have df := HP.cf
    have dr := HP.cr
    have nrt := HP.nrt
    have ntr := HP.ntr
    have lrb := HP.lrb
    have ltb := HP.ltb
    have wb := HP.regW htl (r := ib) (by omega)
    rw [HVb.out] at wb
    have HF : Hid (DSt ((w1.setCell ⟨tb, t * 3, none⟩ (.int .i64 ((pc : Int) + 1))).setCell ⟨sb, 9, none⟩ (.bool true)) B P sb v (fallX (stepS s t)) ∧ Moved w ((w1.setCell ⟨tb, t * 3, none⟩ (.int .i64 ((pc : Int) + 1))).setCell ⟨sb, 9, none⟩ (.bool true)) v v) := ⟨HP.D.fall, HP.M.put HP.D.bblk 9 _⟩
    have hset : ∀ o, ((w1.setCell ⟨tb, t * 3, none⟩ (.int .i64 ((pc : Int) + 1))).alloc o).setCell ⟨sb, 9, none⟩ (.bool true) = ((w1.setCell ⟨tb, t * 3, none⟩ (.int .i64 ((pc : Int) + 1))).setCell ⟨sb, 9, none⟩ (.bool true)).alloc o := fun o => setCell_up (by have := HP.lsb; simpa [World.setCell] using this)
    have HWD : Hid (∀ o, Calls Tryd.prog 100 #[.pointer (some ⟨sb, 0, none⟩), .int .i64 Vb] ((w1.setCell ⟨tb, t * 3, none⟩ (.int .i64 ((pc : Int) + 1))).alloc o) fun e w' => e = .returned (.bool false) ∧ ((w1.setCell ⟨tb, t * 3, none⟩ (.int .i64 ((pc : Int) + 1))).setCell ⟨sb, 9, none⟩ (.bool true)).alloc o = w') := fun o => by
      have := word_no _ B sb P v (stepS s t) Vb (HP.D.alloc o) (by show s.words.length ≤ 64; omega) (by show Vb < 0 ∨ (s.words.length : Int) ≤ Vb; omega)
      rwa [hset o] at this
    clear HP HPRE HNX hset
    go_wp2_with fail
    refine Calls.mono (HWD.out _) ?_
    rintro e w2 ⟨rfl, rfl⟩
    go_wp2
    all_goals go_end0
    all_goals refine ⟨rfl, v, ?_⟩
    all_goals rw [HST.out]
    all_goals exact ⟨DSt.same (HF.out.1.alloc _) rfl, Moved.same (HF.out.2.alloc _) rfl rfl rfl rfl⟩
end

end Go.Proofs.YtocfocjnnjdcgaaDoor
