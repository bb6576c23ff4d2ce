/-
  A move of the document's run: what lies ahead of a thread's order.
  What holds of a state holds behind every move that can be picked.
-/
import Derived.Test.YtipdnfpomdcenabGreatDoorRMoves
import Derived.Test.YtipdnfpomdcenabGreatDoorRMay
import Derived.StillTailTactics
import Derived.Test.YtipdnfpomdcenabGreatDoorSOk
namespace Go.Proofs.YtipdnfpomdcenabGreatDoor
section
open Go.RowKit

/-- A region that draws its order, of operations that only read, and at its end some that wait for all of them. -/
theorem region_tail {P : Program} {id : Nat} {Q : Exit → Act → World → Prop} {a : Act} {w : World} {l : List Oper} (n : Nat) (hm : P.follows .mixedOrders = true) (hB : Region.lexTailB .any l.toArray n = true)
    (h : wpStill P l.toArray w.drew (fun a' => wpList P l.toArray Q (l.drop n) a' w.drew) (l.take n) a) : (Code.region id l.toArray true).wp P Q a w := wp_region_still_tail n hm hB h

/-- A thread that has an order more, in a run. -/
structure Cx (w : World) (B sb : Nat) (P : Pg) (v : Rl → Value) (s : Sx) (A : Nat → Option Addr) (L C : Nat → Nat) (X : Nat → Nat → Nat → Int) (m lk rg t : Nat) : Prop where
  ht : t < P.n
  hs : DSt w B P sb v s
  hB : B ≤ w.heap.size
  ho : SOk P.n L m lk rg P.mode s
  hc : COk P.n L X m lk rg
  hp : PIn w P.ca P.n A L C X
  hlt : (thOf s t).pc < L t
  hpr : s.prints.length ≤ 20000
  hm : 0 ≤ P.mode

/-- The state when the thread stands behind its order. -/
def stepS (s : Sx) (t : Nat) : Sx := setTh s t { thOf s t with pc := (thOf s t).pc + 1 }
theorem stepS_len (s : Sx) (t : Nat) : (stepS s t).ths.length = s.ths.length := ths_set _ _ _
theorem stepS_regs {s : Sx} {t : Nat} (ht : t < s.ths.length) (u : Nat) : (thOf (stepS s t) u).regs = (thOf s u).regs := by
  unfold stepS
  rw [thOf_set ht]
  split
  · rename_i h; rw [h]
  · rfl
theorem stepS_wait {s : Sx} {t : Nat} (ht : t < s.ths.length) (u : Nat) : (thOf (stepS s t) u).wait = (thOf s u).wait := by
  unfold stepS
  rw [thOf_set ht]
  split
  · rename_i h; rw [h]
  · rfl
theorem stepS_getR {s : Sx} {t : Nat} (ht : t < s.ths.length) (u : Nat) (r : Int) : getR (stepS s t) u r = getR s u r := by
  unfold getR
  rw [stepS_regs ht]
theorem stepS_finds {s : Sx} {t : Nat} (ht : t < s.ths.length) (u : Nat) (r : Int) : findsW (stepS s t) u r = findsW s u r := by
  unfold findsW
  rw [stepS_wait ht]
  rfl

theorem stepS_jump {s : Sx} {t : Nat} (ht : t < s.ths.length) (k : Nat) : setTh (stepS s t) t { thOf (stepS s t) t with pc := k } = setTh s t { thOf s t with pc := k } := by
  have e : thOf (stepS s t) t = { thOf s t with pc := (thOf s t).pc + 1 } := by unfold stepS; rw [thOf_set ht, if_pos rfl]
  rw [e]
  unfold stepS setTh
  simp

/-- What is known in w1, behind the look at the next order. -/
structure Pre (w w1 : World) (B sb : Nat) (P : Pg) (v : Rl → Value) (s : Sx) (t n tb tc rb rc rg pc : Nat) : Prop where
  c5 : w1.cell? ⟨sb, 5, none⟩ = some (.slice (some ⟨tb, 0, none⟩) n tc)
  cp : w1.cell? ⟨tb, t * 3, none⟩ = some (.int .i64 pc)
  cf : w1.frozen? ⟨tb, t * 3, none⟩ = false
  cr : w1.cell? ⟨tb, t * 3 + 1, none⟩ = some (.slice (some ⟨rb, 0, none⟩) rg rc)
  D : DSt (w1.setCell ⟨tb, t * 3, none⟩ (.int .i64 ((pc : Int) + 1))) B P sb v (stepS s t)
  M : Moved w (w1.setCell ⟨tb, t * 3, none⟩ (.int .i64 ((pc : Int) + 1))) v v
  btb : (v .thr).ownBlock = some tb
  brb : (v (.regs t)).ownBlock = some rb
  lsb : sb < w1.heap.size
  ltb : tb < w1.heap.size
  lrb : rb < w1.heap.size
  ntr : tb ≠ rb
  nrt : rb ≠ tb
  nst : sb ≠ tb
  nts : tb ≠ sb
  nsr : sb ≠ rb
  nrs : rb ≠ sb

theorem Cx.pre {w : World} {B sb : Nat} {P : Pg} {v : Rl → Value} {s : Sx} {A : Nat → Option Addr} {L C : Nat → Nat} {X : Nat → Nat → Nat → Int} {m lk rg t : Nat} (h : Cx w B sb P v s A L C X m lk rg t) :
    ∃ n tb tc rb rc pc : Nat, (t < n ∧ n ≤ 4 ∧ pc ≤ 400) ∧ Hid ((thOf s t).pc = pc) ∧ w.cell? ⟨sb, 5, none⟩ = some (.slice (some ⟨tb, 0, none⟩) n tc) ∧
      Hid (Calls Tryz.prog 80 #[.pointer (some ⟨sb, 0, none⟩), .int .i64 t] w fun e w' => e = .returned (.tuple #[.agg #[.int .i64 (opT X s t 0), .int .i64 (opT X s t 1), .int .i64 (opT X s t 2), .int .i64 (opT X s t 3)], .bool true]) ∧ Below w.heap.size w w') ∧
      Hid (∀ w1, Below w.heap.size w w1 → Pre w w1 B sb P v s t n tb tc rb rc rg pc) := by
  obtain ⟨ht, hs, hB, ho, hc, hp, hlt, _, _⟩ := h
  have hl := ho.ths
  have hN := hc.n4
  have hL := hc.L4 t ht
  have htl : t < s.ths.length := by omega
  have hrl := ho.regs t ht
  have hr0 := hc.rg0
  obtain ⟨tb, tc, hth, htb, hlt1⟩ := hs.thrB (by omega)
  obtain ⟨rb, rc, hrv, hrb, hlt2⟩ := hs.regsB (t := t) (by omega)
  have c5 := hs.c5
  rw [hth, hl] at c5
  have cr := hs.regs htb htl
  rw [hrv, hrl] at cr
  refine ⟨P.n, tb, tc, rb, rc, (thOf s t).pc, ⟨ht, hN, by omega⟩, rfl, c5, next_more sb P.ca P.n P.cc P.mode tb tc _ _ _ _ _ s A L C X hl t ht hN hL hlt w (hs.sin hth) hp, fun w1 hb => ?_⟩
  have hs1 := hs.below hb
  have hD := hs1.setPc htb htl ((thOf s t).pc + 1)
  have e : (((thOf s t).pc + 1 : Nat) : Int) = ((thOf s t).pc : Int) + 1 := by omega
  rw [e] at hD
  exact ⟨(hb.cell (lt_of_cell c5)).trans c5, hs1.pc htb htl, hs1.fam.frozen htb _, (hb.cell (lt_of_cell cr)).trans cr, hD, (Moved.of_below hb).put htb _ _, htb, hrb, Nat.lt_of_lt_of_le (lt_of_cell c5) hb.size, Nat.lt_of_lt_of_le hlt1 hb.size, Nat.lt_of_lt_of_le hlt2 hb.size,
    hs.fam.ne htb hrb (by simp), hs.fam.ne hrb htb (by simp), hs.fam.ne hs.bblk htb (by simp), hs.fam.ne htb hs.bblk (by simp), hs.fam.ne hs.bblk hrb (by simp), hs.fam.ne hrb hs.bblk (by simp)⟩

theorem setCell_up {w : World} {a : Addr} {u : Value} {o : Obj} (ha : a.block < w.heap.size) : (w.alloc o).setCell a u = (w.setCell a u).alloc o := by
  unfold World.setCell World.alloc
  simp only
  congr 1
  apply Array.ext_getElem?
  intro i
  simp only [Array.getElem?_modify, Array.getElem?_push, Array.size_modify]
  by_cases h : a.block = i
  · subst h
    have h1 : ¬ a.block = w.heap.size := by omega
    simp [h1]
  · simp only [if_neg h]
theorem setCell_heap {w w1 : World} {a : Addr} {u : Value} (h : w.heap = w1.heap) : (w.setCell a u).heap = (w1.setCell a u).heap := by simp only [World.setCell, h]
theorem DSt.same {w w1 : World} {B : Nat} {P : Pg} {sb : Nat} {v : Rl → Value} {s : Sx} (h : DSt w B P sb v s) (e : w1.heap = w.heap) : DSt w1 B P sb v s :=
  ⟨⟨fun r => fam_keeps (h.fam.own r) (fun g _ => by rw [e]), h.fam.apart⟩, h.box⟩
theorem Moved.same {ι : Type} {w w1 w2 : World} {v v1 : ι → Value} (h : Moved w w1 v v1) (e : w2.heap = w1.heap) (e1 : w2.os = w1.os) (e2 : w2.tape = w1.tape) (e3 : w2.output = w1.output) : Moved w w2 v v1 :=
  ⟨e1.trans h.os, e2.trans h.tape, e3.trans h.output, by rw [e]; exact h.size, fun k hk hr => by rw [e]; exact h.block k hk hr, h.fresh⟩
theorem finds_D (w : World) (B sb : Nat) (P : Pg) (v : Rl → Value) (s : Sx) (t wd : Nat) (hs : DSt w B P sb v s) (ht : t < s.ths.length) (hn : s.ths.length ≤ 4) (hw : wd < s.words.length) (hwl : s.words.length ≤ 64) (hwt : (thOf s t).wait.length ≤ 3) :
    Calls Tryz.prog 97 #[.pointer (some ⟨sb, 0, none⟩), .int .i64 t, .int .i64 wd] w fun e w' => e = .returned (.int .i64 (findsW s t wd)) ∧ w' = w := by
  obtain ⟨tb, tc, hth, htb, _⟩ := hs.thrB (by omega)
  obtain ⟨gb, gc, hgv, hgb, _⟩ := hs.wordsB (by omega)
  obtain ⟨qa, qc, hq⟩ := hs.waitV t
  have c5 := hs.c5
  rw [hth] at c5
  have c6 := hs.c6
  rw [hgv] at c6
  have cq := hs.wait htb ht
  rw [hq] at cq
  exact finds_any sb tb s.ths.length tc _ qa qc gc s t wd ht hn hw hwl (thOf s t).wait rfl (by omega) w c5 c6 ⟨gb, 0, rfl, by simpa using hs.word hgb hw⟩ cq (hs.win hq)
theorem store_any (w : World) (B sb : Nat) (P : Pg) (v : Rl → Value) (s : Sx) (t : Nat) (x : Wt) (hs : DSt w B P sb v s) (hB : B ≤ w.heap.size) (hm : 0 ≤ P.mode) (ht : t < s.ths.length) (hn4 : s.ths.length ≤ 4) (hw3 : (thOf s t).wait.length ≤ 3) (h0 : 0 ≤ x.wh) (hx : x.wh < (if x.lk then s.own.length else s.words.length : Nat)) (hwl : s.words.length ≤ 64) (hol : s.own.length ≤ 4) :
    Calls Tryz.prog 98 #[.pointer (some ⟨sb, 0, none⟩), .int .i64 t, .agg #[.bool x.lk, .int .i64 x.wh, .int .i64 x.what]] w fun e w' => e = .returned (.tuple #[]) ∧ ∃ v', DSt w' B P sb v' (storeW P.mode s t x) ∧ Moved w w' v v' := by
  rcases (by omega : P.mode = 0 ∨ 0 < P.mode) with h | h
  · exact (store_zero w B sb P v s t x hs h h0 hx hwl hol).mono fun e w' ⟨h1, h2, h3⟩ => ⟨h1, v, h2, h3⟩
  · exact store_more w B sb P v s t x hs hB h ht hn4 hw3

/-- What a move's call must come to. -/
def DoQ (B sb : Nat) (P : Pg) (v : Rl → Value) (w : World) (s' : Sx) (e : Ending) (w' : World) : Prop := e = .returned (.tuple #[]) ∧ ∃ v', DSt w' B P sb v' s' ∧ Moved w w' v v'
theorem getR_nat (s : Sx) (t r : Nat) : getR s t (r : Int) = (thOf s t).regs.getD r 0 := by simp [getR]
/-- A register behind the place's store, in whatever memory is made then. -/
theorem Pre.reg {w w1 : World} {B sb : Nat} {P : Pg} {v : Rl → Value} {s : Sx} {t n tb tc rb rc rg pc : Nat} (h : Pre w w1 B sb P v s t n tb tc rb rc rg pc) (ht : t < s.ths.length) {r : Nat} (hr : r < (thOf s t).regs.length) : (w1.setCell ⟨tb, t * 3, none⟩ (.int .i64 ((pc : Int) + 1))).cell? ⟨rb, r, none⟩ = some (.int .i64 (getR s t r)) := by
  have := h.D.reg h.brb (r := r) (by rw [stepS_regs ht]; exact hr)
  rwa [stepS_getR ht] at this
theorem Pre.regW {w w1 : World} {B sb : Nat} {P : Pg} {v : Rl → Value} {s : Sx} {t n tb tc rb rc rg pc : Nat} (h : Pre w w1 B sb P v s t n tb tc rb rc rg pc) (ht : t < s.ths.length) {r : Nat} (hr : r < (thOf s t).regs.length) : w1.cell? ⟨rb, r, none⟩ = some (.int .i64 (getR s t r)) := by
  have := h.reg ht hr
  rw [World.cell?_of_block (w := w1) (Below.heap_setCell _ _ _ _ h.nrt)] at this
  exact this
theorem Pre.frz {w w1 : World} {B sb : Nat} {P : Pg} {v : Rl → Value} {s : Sx} {t n tb tc rb rc rg pc : Nat} (h : Pre w w1 B sb P v s t n tb tc rb rc rg pc) (r : Nat) : w1.frozen? ⟨rb, r, none⟩ = false := by
  have := h.D.fam.frozen h.brb r
  rw [World.frozen?_of_block (w := w1) (Below.heap_setCell _ _ _ _ h.nrt)] at this
  exact this
theorem Pre.fin {w w1 : World} {B sb : Nat} {P : Pg} {v : Rl → Value} {s : Sx} {t n tb tc rb rc rg pc : Nat} (h : Pre w w1 B sb P v s t n tb tc rb rc rg pc) (ht : t < s.ths.length) (r : Nat) (x : Int) :
    DSt ((w1.setCell ⟨tb, t * 3, none⟩ (.int .i64 ((pc : Int) + 1))).setCell ⟨rb, r, none⟩ (.int .i64 x)) B P sb v (setR (stepS s t) t r x) ∧ Moved w ((w1.setCell ⟨tb, t * 3, none⟩ (.int .i64 ((pc : Int) + 1))).setCell ⟨rb, r, none⟩ (.int .i64 x)) v v :=
  ⟨h.D.setReg h.brb (by rw [stepS_len]; exact ht) r x, h.M.put h.brb r _⟩
end

section
open Go.RowKit

section
variable {n : Nat} {L : Nat → Nat} {m lk rg : Nat} {mode : Int} {s : Sx}
theorem SOk.th (h : SOk n L m lk rg mode s) {t : Nat} (ht : t < n) {x : Th} (hpc : x.pc ≤ L t) (hr : x.regs.length = rg) (hw : x.wait.length ≤ 3) (hok : ∀ y, y ∈ x.wait → (0 ≤ y.wh ∧ y.wh < (if y.lk then lk else m : Nat)) ∧ (y.lk = true → y.what = 0)) (hb : mode = 0 → x.wait = []) : SOk n L m lk rg mode (setTh s t x) := by
  have htl : t < s.ths.length := by rw [h.ths]; exact ht
  have e := thOf_set htl x
  refine ⟨by rw [ths_set]; exact h.ths, fun u hu => ?_, fun u hu => ?_, h.words, h.own, fun u hu => ?_, fun u hu => ?_, fun h0 u hu => ?_⟩
  all_goals rw [e u]
  all_goals split
  all_goals first | (rename_i hu'; subst hu'; assumption) | skip
  · exact h.pc u hu
  · exact h.regs u hu
  · exact h.wlen u hu
  · exact h.wok u hu
  · rename_i hu'; exact hb h0
  · exact h.bare h0 u hu
theorem SOk.setWord (h : SOk n L m lk rg mode s) (i : Nat) (x : Int) : SOk n L m lk rg mode { s with words := s.words.set i x } := ⟨h.ths, h.pc, h.regs, by simpa using h.words, h.own, h.wlen, h.wok, h.bare⟩
theorem SOk.setOwn (h : SOk n L m lk rg mode s) (i : Nat) (x : Int) : SOk n L m lk rg mode { s with own := s.own.set i x } := ⟨h.ths, h.pc, h.regs, h.words, by simpa using h.own, h.wlen, h.wok, h.bare⟩
theorem SOk.print (h : SOk n L m lk rg mode s) (l : List Int) : SOk n L m lk rg mode { s with prints := l } := ⟨h.ths, h.pc, h.regs, h.words, h.own, h.wlen, h.wok, h.bare⟩
theorem SOk.fall (h : SOk n L m lk rg mode s) : SOk n L m lk rg mode (fallX s) := ⟨h.ths, h.pc, h.regs, h.words, h.own, h.wlen, h.wok, h.bare⟩
theorem SOk.setR (h : SOk n L m lk rg mode s) {t : Nat} (ht : t < n) (r x : Int) : SOk n L m lk rg mode (setR s t r x) := h.th ht (h.pc t ht) (by simpa using h.regs t ht) (h.wlen t ht) (h.wok t ht) (fun h0 => h.bare h0 t ht)
theorem SOk.setPc (h : SOk n L m lk rg mode s) {t : Nat} (ht : t < n) {k : Nat} (hk : k ≤ L t) : SOk n L m lk rg mode (setTh s t { thOf s t with pc := k }) := h.th ht hk (h.regs t ht) (h.wlen t ht) (h.wok t ht) (fun h0 => h.bare h0 t ht)
theorem SOk.done (h : SOk n L m lk rg mode s) (x : Wt) : SOk n L m lk rg mode (doneW s x) := by
  unfold doneW
  split
  · exact h.setOwn _ _
  · exact h.setWord _ _
theorem SOk.store (h : SOk n L m lk rg mode s) {t : Nat} (ht : t < n) (_hm : 0 ≤ mode) (hw : (thOf s t).wait.length < 3) (x : Wt) (hx : (0 ≤ x.wh ∧ x.wh < (if x.lk then lk else m : Nat)) ∧ (x.lk = true → x.what = 0)) : SOk n L m lk rg mode (storeW mode s t x) := by
  unfold storeW
  split
  · refine h.th ht (h.pc t ht) (h.regs t ht) (by simp; omega) (fun y hy => ?_) (fun h0 => by omega)
    simp only [List.mem_append, List.mem_singleton] at hy
    rcases hy with hy | rfl
    · exact h.wok t ht y hy
    · exact hx
  · exact h.done x
/-- An order. -/
theorem SOk.order (h : SOk n L m lk rg mode s) {t : Nat} (ht : t < n) (hm : 0 ≤ mode) {op a b c : Int} (hw : op = 9 ∨ op = 11 ∨ op = 18 → (thOf s t).wait.length < 3) (hc : ordE rg m lk (L t) op a b c = 0) : SOk n L m lk rg mode (orderX mode s t op a b c) := by
  have hop := ok_op hc
  unfold orderX
  by_cases h1 : op = 1
  · rw [if_pos h1]; exact h.setR ht _ _
  rw [if_neg h1]
  by_cases h1 : op = 2
  · rw [if_pos h1]; exact h.setR ht _ _
  rw [if_neg h1]
  by_cases h1 : op = 3
  · rw [if_pos h1]; exact h.setR ht _ _
  rw [if_neg h1]
  by_cases h1 : op = 4
  · rw [if_pos h1]; exact h.setR ht _ _
  rw [if_neg h1]
  by_cases h1 : op = 5
  · rw [if_pos h1]; exact h.setR ht _ _
  rw [if_neg h1]
  by_cases h1 : op = 6
  · rw [if_pos h1]; exact h.setR ht _ _
  rw [if_neg h1]
  by_cases h1 : op = 7
  · rw [if_pos h1]; exact h.setR ht _ _
  rw [if_neg h1]
  by_cases h1 : op = 8
  · rw [if_pos h1]; exact h.setR ht _ _
  rw [if_neg h1]
  by_cases h1 : op = 9
  · rw [if_pos h1]
    subst h1
    have := (ok_store hc).1
    exact h.store ht hm (hw (Or.inl rfl)) _ ⟨by show 0 ≤ a ∧ a < ((m : Nat) : Int); omega, fun h => by cases h⟩
  rw [if_neg h1]
  by_cases h1 : op = 10
  · rw [if_pos h1]
    split
    · exact h.fall
    · exact h.setR ht _ _
  rw [if_neg h1]
  by_cases h1 : op = 11
  · rw [if_pos h1]
    split
    · exact h.fall
    · rename_i hn
      rw [h.words] at hn
      exact h.store ht hm (hw (Or.inr (Or.inl h1))) _ ⟨by show 0 ≤ getR s t a ∧ getR s t a < ((m : Nat) : Int); omega, fun h => by cases h⟩
  rw [if_neg h1]
  by_cases h1 : op = 13
  · rw [if_pos h1]
    split
    · exact (h.setWord _ _).setR ht _ _
    · exact h.setR ht _ _
  rw [if_neg h1]
  by_cases h1 : op = 14
  · rw [if_pos h1]
    subst h1
    have := ok_jump hc
    exact h.setPc ht (by omega)
  rw [if_neg h1]
  by_cases h1 : op = 15
  · rw [if_pos h1]
    subst h1
    have := (ok_zero hc).2
    split
    · exact h.setPc ht (by omega)
    · exact h
  rw [if_neg h1]
  by_cases h1 : op = 16
  · rw [if_pos h1]; exact h.print _
  rw [if_neg h1]
  by_cases h1 : op = 17
  · rw [if_pos h1]; exact h.setOwn _ _
  rw [if_neg h1]
  by_cases h1 : op = 18
  · rw [if_pos h1]
    split
    · exact h.fall
    · have := ok_lock (Or.inr h1) hc
      exact h.store ht hm (hw (Or.inr (Or.inr h1))) _ ⟨by show 0 ≤ a ∧ a < ((lk : Nat) : Int); omega, fun _ => rfl⟩
  rw [if_neg h1]
  exact h
theorem prints_store (s : Sx) (t : Nat) (x : Wt) : (storeW mode s t x).prints = s.prints := by
  unfold storeW doneW setTh
  split
  · rfl
  · split <;> rfl
theorem prints_order (s : Sx) (t : Nat) (op a b c : Int) : (orderX mode s t op a b c).prints.length ≤ s.prints.length + 2 := by
  have key : ∀ (p : Prop) [Decidable p] (x y : Sx), x.prints.length ≤ s.prints.length + 2 → y.prints.length ≤ s.prints.length + 2 → (if p then x else y).prints.length ≤ s.prints.length + 2 := fun p _ x y hx hy => by
    split
    · exact hx
    · exact hy
  unfold orderX
  repeat' (refine key _ _ _ ?_ ?_)
  all_goals first | (show s.prints.length ≤ _; omega) | (rw [prints_store]; omega) | simp
end
theorem able_lt {L : Nat → Nat} {X : Nat → Nat → Nat → Int} {s : Sx} {t : Nat} (h : ableT L X s t = true) : (thOf s t).pc < L t := by
  rcases Nat.lt_or_ge (thOf s t).pc (L t) with h1 | h1
  · exact h1
  · unfold ableT endedT at h
    rw [decide_eq_true h1] at h
    simp at h
theorem able_room {L : Nat → Nat} {X : Nat → Nat → Nat → Int} {s : Sx} {t : Nat} (h : ableT L X s t = true) (ho : opT X s t 0 = 9 ∨ opT X s t 0 = 11 ∨ opT X s t 0 = 18) : (thOf s t).wait.length < 3 := by
  have h1 := able_lt h
  unfold ableT endedT at h
  rw [decide_eq_false (by omega)] at h
  simp only [Bool.false_eq_true, if_false] at h
  rw [if_pos ho] at h
  simpa using h
end

end Go.Proofs.YtipdnfpomdcenabGreatDoor
