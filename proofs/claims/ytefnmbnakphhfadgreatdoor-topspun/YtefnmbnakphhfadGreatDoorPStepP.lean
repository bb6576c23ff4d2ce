/-
  A step of the program's run: what lies ahead of a thread's order.
  Steps of the program's run.
  Steps of the program's run.
  Steps of the program's run.
-/
import Derived.Test.YtefnmbnakphhfadGreatDoorPTouch
import Derived.Test.YtefnmbnakphhfadGreatDoorDSt
import Derived.Test.YtefnmbnakphhfadGreatDoorPTouch2
namespace Go.Proofs.YtefnmbnakphhfadGreatDoor
section
open Go.RowKit

/-- A thread that has an order more, in a run of the program. -/
structure Cy (w : World) (B : Nat) (Q : Cd) (sb mb : Nat) (v : Rp → Value) (s : Sx) (ca : Option Addr) (X : Nat → Nat → Nat → Int) (n m lk rg t : Nat) : Prop where
  ht : t < n
  hs : QSt w B Q sb mb v s
  hB : B ≤ w.heap.size
  ho : SOk n Q.L m lk rg Q.K.mode s
  hc : COk n Q.L X m lk rg
  hp : PIn w ca n Q.A Q.L Q.C X
  hlt : (thOf s t).pc < Q.L t
  hpr : s.prints.length ≤ 20000
  hf : s.fell = false
  hM : MLaw Q.K
  hnt : Q.nt = n
  room : opT X s t 0 = 9 ∨ opT X s t 0 = 11 ∨ opT X s t 0 = 18 → (thOf s t).wait.length < 3

structure PreP (w : World) (B : Nat) (Q : Cd) (sb mb : Nat) (v : Rp → Value) (s : Sx) (X : Nat → Nat → Nat → Int) (t n tb tc rb rc rg pc ob oo : Nat) : Prop where
  c1 : w.cell? ⟨sb, 1, none⟩ = some (.slice (some ⟨tb, 0, none⟩) n tc)
  cc : w.cell? ⟨tb, t * 3, none⟩ = some (.slice (some ⟨ob, oo, none⟩) (Q.L t) (Q.C t))
  cp : w.cell? ⟨tb, t * 3 + 1, none⟩ = some (.int .i64 pc)
  cf : w.frozen? ⟨tb, t * 3 + 1, none⟩ = false
  cr : w.cell? ⟨tb, t * 3 + 2, none⟩ = some (.slice (some ⟨rb, 0, none⟩) rg rc)
  y0 : w.cell? ⟨ob, oo + pc * 4, none⟩ = some (.int .i64 (opT X s t 0))
  y1 : w.cell? ⟨ob, oo + pc * 4 + 1, none⟩ = some (.int .i64 (opT X s t 1))
  y2 : w.cell? ⟨ob, oo + pc * 4 + 2, none⟩ = some (.int .i64 (opT X s t 2))
  y3 : w.cell? ⟨ob, oo + pc * 4 + 3, none⟩ = some (.int .i64 (opT X s t 3))
  D : QSt (w.setCell ⟨tb, t * 3 + 1, none⟩ (.int .i64 ((pc : Int) + 1))) B Q sb mb v (stepS s t)
  M : Moved w (w.setCell ⟨tb, t * 3 + 1, none⟩ (.int .i64 ((pc : Int) + 1))) v v
  btb : (v .thr).ownBlock = some tb
  brb : (v (.regs t)).ownBlock = some rb
  lsb : sb < w.heap.size
  ltb : tb < w.heap.size
  lrb : rb < w.heap.size
  ntr : tb ≠ rb
  nrt : rb ≠ tb
  nst : sb ≠ tb
  nts : tb ≠ sb
  nsr : sb ≠ rb
  nrs : rb ≠ sb
  lob : ob < w.heap.size
theorem Cy.mpre {w W : World} {B : Nat} {Q : Cd} {sb mb : Nat} {v : Rp → Value} {s : Sx} {ca : Option Addr} {X : Nat → Nat → Nat → Int} {n m lk rg t : Nat} (h : Cy w B Q sb mb v s ca X n m lk rg t) (hq : QSt W B Q sb mb v (stepS s t)) (hW : w.heap.size ≤ W.heap.size) : MPre W B Q sb mb v (stepS s t) t := by
  have hl := h.ho.ths
  have ht := h.ht
  have htl : t < s.ths.length := by omega
  have hsl : (stepS s t).ths.length = s.ths.length := stepS_len s t
  have hn4 := h.hc.n4
  refine ⟨hq, Nat.le_trans h.hB hW, by rw [hsl, hl]; exact h.hnt, by omega, by omega, ?_, ?_, ?_, ?_, ?_⟩
  · show s.words.length ≤ 64
    rw [h.ho.words]; exact h.hc.m64
  · show s.own.length ≤ 4
    rw [h.ho.own]; exact h.hc.lk4
  · rw [stepS_wait htl]; exact h.ho.wlen t ht
  · rw [stepS_wait htl]
    intro x hx
    show (0 ≤ x.wh ∧ x.wh < (if x.lk then s.own.length else s.words.length : Nat)) ∧ (x.lk = true → x.what = 0)
    rw [h.ho.words, h.ho.own]
    exact h.ho.wok t ht x hx
  · intro hb
    rw [stepS_wait htl]
    exact h.ho.bare (h.hM.mode0 hb) t ht
theorem Cy.pre {w : World} {B : Nat} {Q : Cd} {sb mb : Nat} {v : Rp → Value} {s : Sx} {ca : Option Addr} {X : Nat → Nat → Nat → Int} {n m lk rg t : Nat} (h : Cy w B Q sb mb v s ca X n m lk rg t) :
    ∃ tb tc rb rc pc ob oo : Nat, (t < n ∧ n ≤ 4 ∧ pc < Q.L t ∧ Q.L t ≤ 1000) ∧ PreP w B Q sb mb v s X t n tb tc rb rc rg pc ob oo := by
  obtain ⟨ht, hs, hB, ho, hc, hp, hlt, _, _, _, _, _⟩ := h
  have hl := ho.ths
  have hrl := ho.regs t ht
  have hr0 := hc.rg0
  have htl : t < s.ths.length := by omega
  obtain ⟨tb, tc, hth, htb, hlt1⟩ := hs.blk .thr (by show 0 < s.ths.length; omega)
  obtain ⟨rb, rc, hrv, hrb, hlt2⟩ := hs.blk (.regs t) (by show 0 < (thOf s t).regs.length; omega)
  have c1 := hs.c1
  rw [hth] at c1
  change w.cell? ⟨sb, 1, none⟩ = some (.slice (some ⟨tb, 0, none⟩) s.ths.length tc) at c1
  rw [hl] at c1
  have cr := hs.regs htb htl
  rw [hrv] at cr
  change w.cell? ⟨tb, t * 3 + 2, none⟩ = some (.slice (some ⟨rb, 0, none⟩) (thOf s t).regs.length rc) at cr
  rw [hrl] at cr
  obtain ⟨ob, oo, hA, y0, y1, y2, y3⟩ := hp.ord t (thOf s t).pc ht hlt
  have cc := hs.code htb htl
  rw [hA] at cc
  have hD := hs.setPc htb htl ((thOf s t).pc + 1)
  have e : (((thOf s t).pc + 1 : Nat) : Int) = ((thOf s t).pc : Int) + 1 := by omega
  rw [e] at hD
  exact ⟨tb, tc, rb, rc, (thOf s t).pc, ob, oo, ⟨ht, hc.n4, hlt, hc.L4 t ht⟩, c1, cc, hs.pc htb htl, hs.fam.frozen htb _, cr, y0, y1, y2, y3, hD, (Moved.refl w v).put htb _ _, htb, hrb, lt_of_cell c1, hlt1, hlt2,
    hs.fam.ne htb hrb (by simp), hs.fam.ne hrb htb (by simp), hs.fam.ne hs.bst htb (by simp), hs.fam.ne htb hs.bst (by simp), hs.fam.ne hs.bst hrb (by simp), hs.fam.ne hrb hs.bst (by simp), lt_of_cell y0⟩
theorem PreP.reg {w : World} {B : Nat} {Q : Cd} {sb mb : Nat} {v : Rp → Value} {s : Sx} {X : Nat → Nat → Nat → Int} {t n tb tc rb rc rg pc ob oo : Nat} (h : PreP w B Q sb mb v s X t n tb tc rb rc rg pc ob oo) (ht : t < s.ths.length) {r : Nat} (hr : r < (thOf s t).regs.length) : w.cell? ⟨rb, r, none⟩ = some (.int .i64 (getR s t r)) := by
  have := h.D.reg h.brb (r := r) (by rw [stepS_regs ht]; exact hr)
  rw [stepS_getR ht, World.cell?_of_block (w := w) (Below.heap_setCell _ _ _ _ h.nrt)] at this
  exact this
end

section
open Go.RowKit

set_option maxRecDepth 100000 in
set_option maxHeartbeats 3200000 in
theorem step_5 (w : World) (B : Nat) (Q : Cd) (sb mb : Nat) (v : Rp → Value) (s : Sx) (ca : Option Addr) (X : Nat → Nat → Nat → Int) (n m lk rg t : Nat) (hx : Cy w B Q sb mb v s ca X n m lk rg t) (hop : opT X s t 0 = 5) :
    Calls Tryz.prog 98 #[.pointer (some ⟨sb, 0, none⟩), .int .i64 t] w (StepQ B Q sb mb v w (orderX Q.K.mode (stepS s t) t 5 (opT X s t 1) (opT X s t 2) (opT X s t 3))) := by
  obtain ⟨tb, tc, rb, rc, pc, ob, oo, ⟨htn, hn4, hpcl, hL4⟩, hpre⟩ := hx.pre
  have htl : t < s.ths.length := by have := hx.ho.ths; have := hx.ht; omega
  have hrl : (thOf s t).regs.length = rg := hx.ho.regs t hx.ht
  have hord := hx.hc.ord t (thOf s t).pc hx.ht hx.hlt
  have hrg2 := hx.hc.rg2
  have hwl : s.words.length = m := hx.ho.words
  have hol : s.own.length = lk := hx.ho.own
  have hm64 := hx.hc.m64
  have hlk4 := hx.hc.lk4
  have hM := hx.hM
  have hf := hx.hf
  have hthn := hx.ho.ths
  have hsl : (stepS s t).ths.length = s.ths.length := stepS_len s t
  have hsr : (thOf (stepS s t) t).regs.length = rg := by rw [stepS_regs htl]; exact hrl
  have HMPX : Hid (∀ W : World, QSt W B Q sb mb v (stepS s t) → w.heap.size ≤ W.heap.size → MPre W B Q sb mb v (stepS s t) t) := fun W hq hW => hx.mpre hq hW
  have hsf : (stepS s t).fell = false := hf
  change ordE rg m lk (Q.L t) (opT X s t 0) (opT X s t 1) (opT X s t 2) (opT X s t 3) = 0 at hord
  have d1 := hpre.c1
  have dc := hpre.cc
  have dp := hpre.cp
  have df := hpre.cf
  have dr := hpre.cr
  have y0 := hpre.y0
  have y1 := hpre.y1
  have y2 := hpre.y2
  have y3 := hpre.y3
  have nrt := hpre.nrt
  have ntr := hpre.ntr
  have nst := hpre.nst
  have nts := hpre.nts
  have lsb := hpre.lsb
  have lrb := hpre.lrb
  have ltb := hpre.ltb
  have lob := hpre.lob
  rw [hop] at hord y0
  obtain ⟨a, ea⟩ : ∃ x, opT X s t 1 = x := ⟨_, rfl⟩
  obtain ⟨b, eb⟩ : ∃ x, opT X s t 2 = x := ⟨_, rfl⟩
  obtain ⟨c, ec⟩ : ∃ x, opT X s t 3 = x := ⟨_, rfl⟩
  rw [ea, eb, ec] at hord ⊢
  rw [ea] at y1
  rw [eb] at y2
  rw [ec] at y3
  clear ea eb ec
  obtain ⟨⟨ia, rfl, ha⟩, ⟨ib, rfl, hb⟩, ⟨ic, rfl, hc⟩⟩ := by
    have h3 := ok_rrr (by omega) hord
    exact (⟨toN h3.1, toN h3.2.1, toN h3.2.2⟩ : _ ∧ _ ∧ _)
  obtain ⟨LT, hLT⟩ : ∃ x, Q.L t = x := ⟨_, rfl⟩
  rw [hLT] at dc hpcl hL4
  have HP := Hid.out (p := Hid _) hpre
  have HX := Hid.out (p := Hid _) hx
  have HD : Hid (∀ W, W.heap = ((w.setCell ⟨tb, t * 3 + 1, none⟩ (.int .i64 ((pc : Int) + 1))).alloc (.cells #[.int .i64 5, .int .i64 (ia : Int), .int .i64 (ib : Int), .int .i64 (ic : Int)] 37)).heap → QSt W B Q sb mb v (stepS s t)) := fun W e => (hpre.D.alloc _).same e
  have HM : Hid (∀ W, W.heap = ((w.setCell ⟨tb, t * 3 + 1, none⟩ (.int .i64 ((pc : Int) + 1))).alloc (.cells #[.int .i64 5, .int .i64 (ia : Int), .int .i64 (ib : Int), .int .i64 (ic : Int)] 37)).heap → W.os = w.os → W.tape = w.tape → W.output = w.output → Moved w W v v) := fun W e e1 e2 e3 => Moved.same (hpre.M.alloc _) e e1 e2 e3
  have HC : Hid (∀ W, W.heap = ((w.setCell ⟨tb, t * 3 + 1, none⟩ (.int .i64 ((pc : Int) + 1))).alloc (.cells #[.int .i64 5, .int .i64 (ia : Int), .int .i64 (ib : Int), .int .i64 (ic : Int)] 37)).heap → Calls Tryz.prog 106 #[.pointer (some ⟨tb, t * 3, none⟩), ints4 5 (ia : Int) (ib : Int) (ic : Int)] W fun e w' => e = .returned (.tuple #[]) ∧ QSt w' B Q sb mb v (orderX Q.K.mode (stepS s t) t 5 (ia : Int) (ib : Int) (ic : Int)) ∧ Moved W w' v v) := fun W e =>
    reckon_5 W B Q sb mb v (stepS s t) rg t tb ia ib ic (HD.out W e) hpre.btb (by rw [hsl]; exact htl) (by rw [hsl]; omega) hsr hrg2 ha hb hc
  have hfe : (orderX Q.K.mode (stepS s t) t 5 (ia : Int) (ib : Int) (ic : Int)).fell = false := hsf
  have HFE := Hid.out (p := Hid _) hfe
  clear hfe hord
  clear hx hpre hop hLT
  go_enter Tryz.func98, Tryz.ntmps98
  go_wp2
  go_region
  all_goals go_wp2_with fail
  all_goals refine Calls.mono (HC.out _ rfl) ?_
  all_goals rintro e w1 ⟨rfl, hq1, hm1⟩
  all_goals go_wp2_with fail
  all_goals go_ret
  all_goals exact ⟨by rw [HFE.out]; rfl, v, hq1, (HM.out _ (by rfl) (by rfl) (by rfl) (by rfl)).trans hm1⟩

set_option maxRecDepth 100000 in
set_option maxHeartbeats 3200000 in
theorem step_6 (w : World) (B : Nat) (Q : Cd) (sb mb : Nat) (v : Rp → Value) (s : Sx) (ca : Option Addr) (X : Nat → Nat → Nat → Int) (n m lk rg t : Nat) (hx : Cy w B Q sb mb v s ca X n m lk rg t) (hop : opT X s t 0 = 6) :
    Calls Tryz.prog 98 #[.pointer (some ⟨sb, 0, none⟩), .int .i64 t] w (StepQ B Q sb mb v w (orderX Q.K.mode (stepS s t) t 6 (opT X s t 1) (opT X s t 2) (opT X s t 3))) := by
  obtain ⟨tb, tc, rb, rc, pc, ob, oo, ⟨htn, hn4, hpcl, hL4⟩, hpre⟩ := hx.pre
  have htl : t < s.ths.length := by have := hx.ho.ths; have := hx.ht; omega
  have hrl : (thOf s t).regs.length = rg := hx.ho.regs t hx.ht
  have hord := hx.hc.ord t (thOf s t).pc hx.ht hx.hlt
  have hrg2 := hx.hc.rg2
  have hwl : s.words.length = m := hx.ho.words
  have hol : s.own.length = lk := hx.ho.own
  have hm64 := hx.hc.m64
  have hlk4 := hx.hc.lk4
  have hM := hx.hM
  have hf := hx.hf
  have hthn := hx.ho.ths
  have hsl : (stepS s t).ths.length = s.ths.length := stepS_len s t
  have hsr : (thOf (stepS s t) t).regs.length = rg := by rw [stepS_regs htl]; exact hrl
  have HMPX : Hid (∀ W : World, QSt W B Q sb mb v (stepS s t) → w.heap.size ≤ W.heap.size → MPre W B Q sb mb v (stepS s t) t) := fun W hq hW => hx.mpre hq hW
  have hsf : (stepS s t).fell = false := hf
  change ordE rg m lk (Q.L t) (opT X s t 0) (opT X s t 1) (opT X s t 2) (opT X s t 3) = 0 at hord
  have d1 := hpre.c1
  have dc := hpre.cc
  have dp := hpre.cp
  have df := hpre.cf
  have dr := hpre.cr
  have y0 := hpre.y0
  have y1 := hpre.y1
  have y2 := hpre.y2
  have y3 := hpre.y3
  have nrt := hpre.nrt
  have ntr := hpre.ntr
  have nst := hpre.nst
  have nts := hpre.nts
  have lsb := hpre.lsb
  have lrb := hpre.lrb
  have ltb := hpre.ltb
  have lob := hpre.lob
  rw [hop] at hord y0
  obtain ⟨a, ea⟩ : ∃ x, opT X s t 1 = x := ⟨_, rfl⟩
  obtain ⟨b, eb⟩ : ∃ x, opT X s t 2 = x := ⟨_, rfl⟩
  obtain ⟨c, ec⟩ : ∃ x, opT X s t 3 = x := ⟨_, rfl⟩
  rw [ea, eb, ec] at hord ⊢
  rw [ea] at y1
  rw [eb] at y2
  rw [ec] at y3
  clear ea eb ec
  obtain ⟨⟨ia, rfl, ha⟩, ⟨ib, rfl, hb⟩, ⟨ic, rfl, hc⟩⟩ := by
    have h3 := ok_rrr (by omega) hord
    exact (⟨toN h3.1, toN h3.2.1, toN h3.2.2⟩ : _ ∧ _ ∧ _)
  obtain ⟨LT, hLT⟩ : ∃ x, Q.L t = x := ⟨_, rfl⟩
  rw [hLT] at dc hpcl hL4
  have HP := Hid.out (p := Hid _) hpre
  have HX := Hid.out (p := Hid _) hx
  have HD : Hid (∀ W, W.heap = ((w.setCell ⟨tb, t * 3 + 1, none⟩ (.int .i64 ((pc : Int) + 1))).alloc (.cells #[.int .i64 6, .int .i64 (ia : Int), .int .i64 (ib : Int), .int .i64 (ic : Int)] 37)).heap → QSt W B Q sb mb v (stepS s t)) := fun W e => (hpre.D.alloc _).same e
  have HM : Hid (∀ W, W.heap = ((w.setCell ⟨tb, t * 3 + 1, none⟩ (.int .i64 ((pc : Int) + 1))).alloc (.cells #[.int .i64 6, .int .i64 (ia : Int), .int .i64 (ib : Int), .int .i64 (ic : Int)] 37)).heap → W.os = w.os → W.tape = w.tape → W.output = w.output → Moved w W v v) := fun W e e1 e2 e3 => Moved.same (hpre.M.alloc _) e e1 e2 e3
  have HC : Hid (∀ W, W.heap = ((w.setCell ⟨tb, t * 3 + 1, none⟩ (.int .i64 ((pc : Int) + 1))).alloc (.cells #[.int .i64 6, .int .i64 (ia : Int), .int .i64 (ib : Int), .int .i64 (ic : Int)] 37)).heap → Calls Tryz.prog 106 #[.pointer (some ⟨tb, t * 3, none⟩), ints4 6 (ia : Int) (ib : Int) (ic : Int)] W fun e w' => e = .returned (.tuple #[]) ∧ QSt w' B Q sb mb v (orderX Q.K.mode (stepS s t) t 6 (ia : Int) (ib : Int) (ic : Int)) ∧ Moved W w' v v) := fun W e =>
    reckon_6 W B Q sb mb v (stepS s t) rg t tb ia ib ic (HD.out W e) hpre.btb (by rw [hsl]; exact htl) (by rw [hsl]; omega) hsr hrg2 ha hb hc
  have hfe : (orderX Q.K.mode (stepS s t) t 6 (ia : Int) (ib : Int) (ic : Int)).fell = false := hsf
  have HFE := Hid.out (p := Hid _) hfe
  clear hfe hord
  clear hx hpre hop hLT
  go_enter Tryz.func98, Tryz.ntmps98
  go_wp2
  go_region
  all_goals go_wp2_with fail
  all_goals refine Calls.mono (HC.out _ rfl) ?_
  all_goals rintro e w1 ⟨rfl, hq1, hm1⟩
  all_goals go_wp2_with fail
  all_goals go_ret
  all_goals exact ⟨by rw [HFE.out]; rfl, v, hq1, (HM.out _ (by rfl) (by rfl) (by rfl) (by rfl)).trans hm1⟩

set_option maxRecDepth 100000 in
set_option maxHeartbeats 3200000 in
theorem step_7 (w : World) (B : Nat) (Q : Cd) (sb mb : Nat) (v : Rp → Value) (s : Sx) (ca : Option Addr) (X : Nat → Nat → Nat → Int) (n m lk rg t : Nat) (hx : Cy w B Q sb mb v s ca X n m lk rg t) (hop : opT X s t 0 = 7) :
    Calls Tryz.prog 98 #[.pointer (some ⟨sb, 0, none⟩), .int .i64 t] w (StepQ B Q sb mb v w (orderX Q.K.mode (stepS s t) t 7 (opT X s t 1) (opT X s t 2) (opT X s t 3))) := by
  obtain ⟨tb, tc, rb, rc, pc, ob, oo, ⟨htn, hn4, hpcl, hL4⟩, hpre⟩ := hx.pre
  have htl : t < s.ths.length := by have := hx.ho.ths; have := hx.ht; omega
  have hrl : (thOf s t).regs.length = rg := hx.ho.regs t hx.ht
  have hord := hx.hc.ord t (thOf s t).pc hx.ht hx.hlt
  have hrg2 := hx.hc.rg2
  have hwl : s.words.length = m := hx.ho.words
  have hol : s.own.length = lk := hx.ho.own
  have hm64 := hx.hc.m64
  have hlk4 := hx.hc.lk4
  have hM := hx.hM
  have hf := hx.hf
  have hthn := hx.ho.ths
  have hsl : (stepS s t).ths.length = s.ths.length := stepS_len s t
  have hsr : (thOf (stepS s t) t).regs.length = rg := by rw [stepS_regs htl]; exact hrl
  have HMPX : Hid (∀ W : World, QSt W B Q sb mb v (stepS s t) → w.heap.size ≤ W.heap.size → MPre W B Q sb mb v (stepS s t) t) := fun W hq hW => hx.mpre hq hW
  have hsf : (stepS s t).fell = false := hf
  change ordE rg m lk (Q.L t) (opT X s t 0) (opT X s t 1) (opT X s t 2) (opT X s t 3) = 0 at hord
  have d1 := hpre.c1
  have dc := hpre.cc
  have dp := hpre.cp
  have df := hpre.cf
  have dr := hpre.cr
  have y0 := hpre.y0
  have y1 := hpre.y1
  have y2 := hpre.y2
  have y3 := hpre.y3
  have nrt := hpre.nrt
  have ntr := hpre.ntr
  have nst := hpre.nst
  have nts := hpre.nts
  have lsb := hpre.lsb
  have lrb := hpre.lrb
  have ltb := hpre.ltb
  have lob := hpre.lob
  rw [hop] at hord y0
  obtain ⟨a, ea⟩ : ∃ x, opT X s t 1 = x := ⟨_, rfl⟩
  obtain ⟨b, eb⟩ : ∃ x, opT X s t 2 = x := ⟨_, rfl⟩
  obtain ⟨c, ec⟩ : ∃ x, opT X s t 3 = x := ⟨_, rfl⟩
  rw [ea, eb, ec] at hord ⊢
  rw [ea] at y1
  rw [eb] at y2
  rw [ec] at y3
  clear ea eb ec
  obtain ⟨⟨ia, rfl, ha⟩, ⟨ib, rfl, hb⟩, ⟨ic, rfl, hc⟩⟩ := by
    have h3 := ok_rrr (by omega) hord
    exact (⟨toN h3.1, toN h3.2.1, toN h3.2.2⟩ : _ ∧ _ ∧ _)
  obtain ⟨LT, hLT⟩ : ∃ x, Q.L t = x := ⟨_, rfl⟩
  rw [hLT] at dc hpcl hL4
  have HP := Hid.out (p := Hid _) hpre
  have HX := Hid.out (p := Hid _) hx
  have HD : Hid (∀ W, W.heap = ((w.setCell ⟨tb, t * 3 + 1, none⟩ (.int .i64 ((pc : Int) + 1))).alloc (.cells #[.int .i64 7, .int .i64 (ia : Int), .int .i64 (ib : Int), .int .i64 (ic : Int)] 37)).heap → QSt W B Q sb mb v (stepS s t)) := fun W e => (hpre.D.alloc _).same e
  have HM : Hid (∀ W, W.heap = ((w.setCell ⟨tb, t * 3 + 1, none⟩ (.int .i64 ((pc : Int) + 1))).alloc (.cells #[.int .i64 7, .int .i64 (ia : Int), .int .i64 (ib : Int), .int .i64 (ic : Int)] 37)).heap → W.os = w.os → W.tape = w.tape → W.output = w.output → Moved w W v v) := fun W e e1 e2 e3 => Moved.same (hpre.M.alloc _) e e1 e2 e3
  have HC : Hid (∀ W, W.heap = ((w.setCell ⟨tb, t * 3 + 1, none⟩ (.int .i64 ((pc : Int) + 1))).alloc (.cells #[.int .i64 7, .int .i64 (ia : Int), .int .i64 (ib : Int), .int .i64 (ic : Int)] 37)).heap → Calls Tryz.prog 106 #[.pointer (some ⟨tb, t * 3, none⟩), ints4 7 (ia : Int) (ib : Int) (ic : Int)] W fun e w' => e = .returned (.tuple #[]) ∧ QSt w' B Q sb mb v (orderX Q.K.mode (stepS s t) t 7 (ia : Int) (ib : Int) (ic : Int)) ∧ Moved W w' v v) := fun W e =>
    reckon_7 W B Q sb mb v (stepS s t) rg t tb ia ib ic (HD.out W e) hpre.btb (by rw [hsl]; exact htl) (by rw [hsl]; omega) hsr hrg2 ha hb hc
  have hfe : (orderX Q.K.mode (stepS s t) t 7 (ia : Int) (ib : Int) (ic : Int)).fell = false := hsf
  have HFE := Hid.out (p := Hid _) hfe
  clear hfe hord
  clear hx hpre hop hLT
  go_enter Tryz.func98, Tryz.ntmps98
  go_wp2
  go_region
  all_goals go_wp2_with fail
  all_goals refine Calls.mono (HC.out _ rfl) ?_
  all_goals rintro e w1 ⟨rfl, hq1, hm1⟩
  all_goals go_wp2_with fail
  all_goals go_ret
  all_goals exact ⟨by rw [HFE.out]; rfl, v, hq1, (HM.out _ (by rfl) (by rfl) (by rfl) (by rfl)).trans hm1⟩

set_option maxRecDepth 100000 in
set_option maxHeartbeats 3200000 in
theorem step_12 (w : World) (B : Nat) (Q : Cd) (sb mb : Nat) (v : Rp → Value) (s : Sx) (ca : Option Addr) (X : Nat → Nat → Nat → Int) (n m lk rg t : Nat) (hx : Cy w B Q sb mb v s ca X n m lk rg t) (hop : opT X s t 0 = 12) :
    Calls Tryz.prog 98 #[.pointer (some ⟨sb, 0, none⟩), .int .i64 t] w (StepQ B Q sb mb v w (orderX Q.K.mode (stepS s t) t 12 (opT X s t 1) (opT X s t 2) (opT X s t 3))) := by
  obtain ⟨tb, tc, rb, rc, pc, ob, oo, ⟨htn, hn4, hpcl, hL4⟩, hpre⟩ := hx.pre
  have htl : t < s.ths.length := by have := hx.ho.ths; have := hx.ht; omega
  have hrl : (thOf s t).regs.length = rg := hx.ho.regs t hx.ht
  have hord := hx.hc.ord t (thOf s t).pc hx.ht hx.hlt
  have hrg2 := hx.hc.rg2
  have hwl : s.words.length = m := hx.ho.words
  have hol : s.own.length = lk := hx.ho.own
  have hm64 := hx.hc.m64
  have hlk4 := hx.hc.lk4
  have hM := hx.hM
  have hf := hx.hf
  have hthn := hx.ho.ths
  have hsl : (stepS s t).ths.length = s.ths.length := stepS_len s t
  have hsr : (thOf (stepS s t) t).regs.length = rg := by rw [stepS_regs htl]; exact hrl
  have HMPX : Hid (∀ W : World, QSt W B Q sb mb v (stepS s t) → w.heap.size ≤ W.heap.size → MPre W B Q sb mb v (stepS s t) t) := fun W hq hW => hx.mpre hq hW
  have hsf : (stepS s t).fell = false := hf
  change ordE rg m lk (Q.L t) (opT X s t 0) (opT X s t 1) (opT X s t 2) (opT X s t 3) = 0 at hord
  have d1 := hpre.c1
  have dc := hpre.cc
  have dp := hpre.cp
  have df := hpre.cf
  have dr := hpre.cr
  have y0 := hpre.y0
  have y1 := hpre.y1
  have y2 := hpre.y2
  have y3 := hpre.y3
  have nrt := hpre.nrt
  have ntr := hpre.ntr
  have nst := hpre.nst
  have nts := hpre.nts
  have lsb := hpre.lsb
  have lrb := hpre.lrb
  have ltb := hpre.ltb
  have lob := hpre.lob
  rw [hop] at hord y0
  obtain ⟨a, ea⟩ : ∃ x, opT X s t 1 = x := ⟨_, rfl⟩
  obtain ⟨b, eb⟩ : ∃ x, opT X s t 2 = x := ⟨_, rfl⟩
  obtain ⟨c, ec⟩ : ∃ x, opT X s t 3 = x := ⟨_, rfl⟩
  rw [ea, eb, ec] at hord ⊢
  rw [ea] at y1
  rw [eb] at y2
  rw [ec] at y3
  clear ea eb ec
  obtain ⟨LT, hLT⟩ : ∃ x, Q.L t = x := ⟨_, rfl⟩
  rw [hLT] at dc hpcl hL4
  have HP := Hid.out (p := Hid _) hpre
  have HX := Hid.out (p := Hid _) hx
  have HD : Hid (∀ W, W.heap = ((w.setCell ⟨tb, t * 3 + 1, none⟩ (.int .i64 ((pc : Int) + 1))).alloc (.cells #[.int .i64 12, .int .i64 a, .int .i64 b, .int .i64 c] 37)).heap → QSt W B Q sb mb v (stepS s t)) := fun W e => (hpre.D.alloc _).same e
  have HM : Hid (∀ W, W.heap = ((w.setCell ⟨tb, t * 3 + 1, none⟩ (.int .i64 ((pc : Int) + 1))).alloc (.cells #[.int .i64 12, .int .i64 a, .int .i64 b, .int .i64 c] 37)).heap → W.os = w.os → W.tape = w.tape → W.output = w.output → Moved w W v v) := fun W e e1 e2 e3 => Moved.same (hpre.M.alloc _) e e1 e2 e3
  have HC : Hid (∀ W, W.heap = ((w.setCell ⟨tb, t * 3 + 1, none⟩ (.int .i64 ((pc : Int) + 1))).alloc (.cells #[.int .i64 12, .int .i64 a, .int .i64 b, .int .i64 c] 37)).heap → Calls Tryz.prog 106 #[.pointer (some ⟨tb, t * 3, none⟩), ints4 12 a b c] W fun e w' => e = .returned (.tuple #[]) ∧ QSt w' B Q sb mb v (orderX Q.K.mode (stepS s t) t 12 a b c) ∧ Moved W w' v v) := fun W e =>
    reckon_12 W B Q sb mb v (stepS s t) rg t tb a b c (HD.out W e) hpre.btb (by rw [hsl]; exact htl)
  have hfe : (orderX Q.K.mode (stepS s t) t 12 a b c).fell = false := hsf
  have HFE := Hid.out (p := Hid _) hfe
  clear hfe hord
  clear hx hpre hop hLT
  go_enter Tryz.func98, Tryz.ntmps98
  go_wp2
  go_region
  all_goals go_wp2_with fail
  all_goals refine Calls.mono (HC.out _ rfl) ?_
  all_goals rintro e w1 ⟨rfl, hq1, hm1⟩
  all_goals go_wp2_with fail
  all_goals go_ret
  all_goals exact ⟨by rw [HFE.out]; rfl, v, hq1, (HM.out _ (by rfl) (by rfl) (by rfl) (by rfl)).trans hm1⟩
end

section
open Go.RowKit

attribute [local go_sem ↓] appS_eq
set_option maxRecDepth 100000 in
set_option maxHeartbeats 3200000 in
theorem step_16 (w : World) (B : Nat) (Q : Cd) (sb mb : Nat) (v : Rp → Value) (s : Sx) (ca : Option Addr) (X : Nat → Nat → Nat → Int) (n m lk rg t : Nat) (hx : Cy w B Q sb mb v s ca X n m lk rg t) (hop : opT X s t 0 = 16) :
    Calls Tryz.prog 98 #[.pointer (some ⟨sb, 0, none⟩), .int .i64 t] w (StepQ B Q sb mb v w (orderX Q.K.mode (stepS s t) t 16 (opT X s t 1) (opT X s t 2) (opT X s t 3))) := by
  obtain ⟨tb, tc, rb, rc, pc, ob, oo, ⟨htn, hn4, hpcl, hL4⟩, hpre⟩ := hx.pre
  have htl : t < s.ths.length := by have := hx.ho.ths; have := hx.ht; omega
  have hrl : (thOf s t).regs.length = rg := hx.ho.regs t hx.ht
  have hord := hx.hc.ord t (thOf s t).pc hx.ht hx.hlt
  have hrg2 := hx.hc.rg2
  have hwl : s.words.length = m := hx.ho.words
  have hol : s.own.length = lk := hx.ho.own
  have hm64 := hx.hc.m64
  have hlk4 := hx.hc.lk4
  have hM := hx.hM
  have hf := hx.hf
  have hthn := hx.ho.ths
  have hsl : (stepS s t).ths.length = s.ths.length := stepS_len s t
  have hsr : (thOf (stepS s t) t).regs.length = rg := by rw [stepS_regs htl]; exact hrl
  have HMPX : Hid (∀ W : World, QSt W B Q sb mb v (stepS s t) → w.heap.size ≤ W.heap.size → MPre W B Q sb mb v (stepS s t) t) := fun W hq hW => hx.mpre hq hW
  have hsf : (stepS s t).fell = false := hf
  change ordE rg m lk (Q.L t) (opT X s t 0) (opT X s t 1) (opT X s t 2) (opT X s t 3) = 0 at hord
  have d1 := hpre.c1
  have dc := hpre.cc
  have dp := hpre.cp
  have df := hpre.cf
  have dr := hpre.cr
  have y0 := hpre.y0
  have y1 := hpre.y1
  have y2 := hpre.y2
  have y3 := hpre.y3
  have nrt := hpre.nrt
  have ntr := hpre.ntr
  have nst := hpre.nst
  have nts := hpre.nts
  have lsb := hpre.lsb
  have lrb := hpre.lrb
  have ltb := hpre.ltb
  have lob := hpre.lob
  rw [hop] at hord y0
  obtain ⟨a, ea⟩ : ∃ x, opT X s t 1 = x := ⟨_, rfl⟩
  obtain ⟨b, eb⟩ : ∃ x, opT X s t 2 = x := ⟨_, rfl⟩
  obtain ⟨c, ec⟩ : ∃ x, opT X s t 3 = x := ⟨_, rfl⟩
  rw [ea, eb, ec] at hord ⊢
  rw [ea] at y1
  rw [eb] at y2
  rw [ec] at y3
  clear ea eb ec
  obtain ⟨ia, rfl, ha⟩ := toN (ok_print hord)
  obtain ⟨LT, hLT⟩ : ∃ x, Q.L t = x := ⟨_, rfl⟩
  rw [hLT] at dc hpcl hL4
  have HP := Hid.out (p := Hid _) hpre
  have HX := Hid.out (p := Hid _) hx
  have HD : Hid (∀ W, W.heap = ((w.setCell ⟨tb, t * 3 + 1, none⟩ (.int .i64 ((pc : Int) + 1))).alloc (.cells #[.int .i64 16, .int .i64 (ia : Int), .int .i64 b, .int .i64 c] 37)).heap → QSt W B Q sb mb v (stepS s t)) := fun W e => (hpre.D.alloc _).same e
  have HM : Hid (∀ W, W.heap = ((w.setCell ⟨tb, t * 3 + 1, none⟩ (.int .i64 ((pc : Int) + 1))).alloc (.cells #[.int .i64 16, .int .i64 (ia : Int), .int .i64 b, .int .i64 c] 37)).heap → W.os = w.os → W.tape = w.tape → W.output = w.output → Moved w W v v) := fun W e e1 e2 e3 => Moved.same (hpre.M.alloc _) e e1 e2 e3
  have hpr := hx.hpr
  have hBw := hx.hB
  have wa := hpre.reg htl (r := ia) (by omega)
  obtain ⟨VA, eA⟩ : ∃ x, getR s t (ia : Int) = x := ⟨_, rfl⟩
  have HST : Hid (orderX Q.K.mode (stepS s t) t 16 (ia : Int) b c = { stepS s t with prints := (stepS s t).prints ++ [(t : Int), VA] }) := by
    show { stepS s t with prints := (stepS s t).prints ++ [(t : Int), getR (stepS s t) t (ia : Int)] } = _
    rw [stepS_getR htl, eA]
  rw [eA] at wa
  clear eA
  obtain ⟨W0, hW0⟩ : ∃ W, W = (w.setCell ⟨tb, t * 3 + 1, none⟩ (.int .i64 ((pc : Int) + 1))) := ⟨_, rfl⟩
  have hDW := hpre.D
  have hMW := hpre.M
  rw [← hW0] at hDW hMW
  obtain ⟨pa, pcap, hpv⟩ := hDW.form .prints
  change v .prints = .slice pa s.prints.length pcap at hpv
  have c2 := hDW.c2
  rw [hpv] at c2
  have f2 := hDW.fam.frozen hDW.bst 2
  have hWs : B ≤ W0.heap.size := by have := hMW.size; omega
  have hsz1 : W0.heap.size = w.heap.size := by rw [hW0]; simp [World.setCell]
  have hb0 : Below W0.heap.size W0 ((W0.alloc (.cells #[.int .i64 16, .int .i64 (ia : Int), .int .i64 b, .int .i64 c] 37)).drew).drew := (((Below.refl _ W0).alloc (Nat.le_refl _) _).drew).drew
  obtain ⟨g, cap, w3, hr1, hr2, hr3, hr4⟩ := app_row (T := 23) Tryz.underlying23 infoI rfl (by omega) (hDW.fam.own .prints) hb0 hWs 2 #[.int .i64 (t : Int), .int .i64 VA] rfl (by simp [Value.oneCell']) (by omega) (by show s.prints.length + 2 ≤ _; omega) (by omega)
  have hne : some sb ≠ (v .prints).ownBlock := fun e => absurd (hDW.fam.apart _ _ sb hDW.bst e.symm) (by simp)
  have q2 := hr3.cell (cell_up2 c2 (.cells #[.int .i64 16, .int .i64 (ia : Int), .int .i64 b, .int .i64 c] 37) (.cells #[.int .i64 (t : Int), .int .i64 VA] 3)) hne
  have hszz : ((W0.alloc (.cells #[.int .i64 16, .int .i64 (ia : Int), .int .i64 b, .int .i64 c] 37)).drew).drew.heap.size = W0.heap.size + 1 := by simp
  have qf : w3.frozen? ⟨sb, 2, none⟩ = false := (hr3.frozen_far ⟨sb, 2, none⟩ (by show sb < _; rw [World.size_alloc, hszz]; omega) hne).trans (frozen_up2 (by show sb < _; omega) f2 _ _)
  have hD1 := (hDW.below (hb0.alloc (by simp) (.cells #[.int .i64 (t : Int), .int .i64 VA] 3))).print (a := (t : Int)) (b := VA) hr2 hr3 hr4 (by simp)
  have hM1 := (((((hMW.alloc (.cells #[.int .i64 16, .int .i64 (ia : Int), .int .i64 b, .int .i64 c] 37)).drew).drew).alloc (.cells #[.int .i64 (t : Int), .int .i64 VA] 3)).grow (r := .prints) (m := s.prints.length + 2) (c := cap) hr3 hr4 (by simp)).put (r := .st) (g := sb) (by rw [upd_ne _ _ (by simp)]; exact hDW.bst) 2 (.slice (some ⟨g, 0, none⟩) (s.prints.length + 2) cap)
  have HF : Hid (∃ v', QSt (w3.setCell ⟨sb, 2, none⟩ (.slice (some ⟨g, 0, none⟩) (s.prints.length + 2) cap)) B Q sb mb v' { stepS s t with prints := (stepS s t).prints ++ [(t : Int), VA] } ∧ Moved w (w3.setCell ⟨sb, 2, none⟩ (.slice (some ⟨g, 0, none⟩) (s.prints.length + 2) cap)) v v') := ⟨_, hD1, hM1⟩
  have hrun : (AppS #[23, 23] 23 #[.slice pa s.prints.length pcap, .slice (some ⟨w.heap.size + 1, 0, none⟩) 2 2]).run Tryz.prog (((w.setCell ⟨tb, t * 3 + 1, none⟩ (.int .i64 ((pc : Int) + 1))).alloc (.cells #[.int .i64 16, .int .i64 (ia : Int), .int .i64 b, .int .i64 c] 37)).alloc (.cells #[.int .i64 (t : Int), .int .i64 VA] 3)).drew.drew = .ok (.slice (some ⟨g, 0, none⟩) (s.prints.length + 2) cap) w3 := by
    have e : ((W0.alloc (.cells #[.int .i64 16, .int .i64 (ia : Int), .int .i64 b, .int .i64 c] 37)).drew).drew.heap.size = w.heap.size + 1 := by rw [← hsz1]; simp
    rw [e, hpv] at hr1
    rw [← hW0]
    exact hr1
  rw [hW0] at c2
  have k2 := cell_up c2
  have k22 := cell_up2 c2
  have c2' := (World.cell?_of_block (w := w) (a := ⟨sb, 2, none⟩) (Below.heap_setCell _ _ _ _ nst)).symm.trans c2
  obtain ⟨np, hnp⟩ : ∃ x, s.prints.length = x := ⟨_, rfl⟩
  rw [hnp] at HF hrun k2 k22 q2 c2' c2 hpr
  clear hord hpv hr1 hr2 hr3 hr4 hne hD1 hM1 hWs hnp hDW hMW hW0 hb0 hsz1 hszz
  clear hx hpre hop hLT
  go_enter Tryz.func98, Tryz.ntmps98
  go_wp2
  go_region
  all_goals go_wp2
  all_goals go_region
  all_goals go_wp2
  all_goals go_ret
  all_goals obtain ⟨v2, hv2⟩ := HF.out
  all_goals refine ⟨?_, v2, ?_⟩
  all_goals rw [HST.out]
  all_goals first | (show _ = Ending.returned (.bool (!s.fell)); rw [hf]; rfl) | exact hv2
end

section
open Go.RowKit

set_option maxRecDepth 100000 in
set_option maxHeartbeats 3200000 in
theorem step_13 (w : World) (B : Nat) (Q : Cd) (sb mb : Nat) (v : Rp → Value) (s : Sx) (ca : Option Addr) (X : Nat → Nat → Nat → Int) (n m lk rg t : Nat) (hx : Cy w B Q sb mb v s ca X n m lk rg t) (hop : opT X s t 0 = 13) :
    Calls Tryz.prog 98 #[.pointer (some ⟨sb, 0, none⟩), .int .i64 t] w (StepQ B Q sb mb v w (orderX Q.K.mode (stepS s t) t 13 (opT X s t 1) (opT X s t 2) (opT X s t 3))) := by
  obtain ⟨tb, tc, rb, rc, pc, ob, oo, ⟨htn, hn4, hpcl, hL4⟩, hpre⟩ := hx.pre
  have htl : t < s.ths.length := by have := hx.ho.ths; have := hx.ht; omega
  have hrl : (thOf s t).regs.length = rg := hx.ho.regs t hx.ht
  have hord := hx.hc.ord t (thOf s t).pc hx.ht hx.hlt
  have hrg2 := hx.hc.rg2
  have hwl : s.words.length = m := hx.ho.words
  have hol : s.own.length = lk := hx.ho.own
  have hm64 := hx.hc.m64
  have hlk4 := hx.hc.lk4
  have hM := hx.hM
  have hf := hx.hf
  have hthn := hx.ho.ths
  have hsl : (stepS s t).ths.length = s.ths.length := stepS_len s t
  have hsr : (thOf (stepS s t) t).regs.length = rg := by rw [stepS_regs htl]; exact hrl
  have HMPX : Hid (∀ W : World, QSt W B Q sb mb v (stepS s t) → w.heap.size ≤ W.heap.size → MPre W B Q sb mb v (stepS s t) t) := fun W hq hW => hx.mpre hq hW
  have hsf : (stepS s t).fell = false := hf
  change ordE rg m lk (Q.L t) (opT X s t 0) (opT X s t 1) (opT X s t 2) (opT X s t 3) = 0 at hord
  have d1 := hpre.c1
  have dc := hpre.cc
  have dp := hpre.cp
  have df := hpre.cf
  have dr := hpre.cr
  have y0 := hpre.y0
  have y1 := hpre.y1
  have y2 := hpre.y2
  have y3 := hpre.y3
  have nrt := hpre.nrt
  have ntr := hpre.ntr
  have nst := hpre.nst
  have nts := hpre.nts
  have lsb := hpre.lsb
  have lrb := hpre.lrb
  have ltb := hpre.ltb
  have lob := hpre.lob
  rw [hop] at hord y0
  obtain ⟨a, ea⟩ : ∃ x, opT X s t 1 = x := ⟨_, rfl⟩
  obtain ⟨b, eb⟩ : ∃ x, opT X s t 2 = x := ⟨_, rfl⟩
  obtain ⟨c, ec⟩ : ∃ x, opT X s t 3 = x := ⟨_, rfl⟩
  rw [ea, eb, ec] at hord ⊢
  rw [ea] at y1
  rw [eb] at y2
  rw [ec] at y3
  clear ea eb ec
  obtain ⟨⟨ia, rfl, ha⟩, ⟨ib, rfl, hb⟩, ⟨ic, rfl, hc⟩⟩ := by
    have h3 := ok_cas hord
    exact (⟨toN h3.1, toN h3.2.1, toN h3.2.2⟩ : _ ∧ _ ∧ _)
  obtain ⟨LT, hLT⟩ : ∃ x, Q.L t = x := ⟨_, rfl⟩
  rw [hLT] at dc hpcl hL4
  have HP := Hid.out (p := Hid _) hpre
  have HX := Hid.out (p := Hid _) hx
  have HD : Hid (∀ W, W.heap = ((w.setCell ⟨tb, t * 3 + 1, none⟩ (.int .i64 ((pc : Int) + 1))).alloc (.cells #[.int .i64 13, .int .i64 (ia : Int), .int .i64 (ib : Int), .int .i64 (ic : Int)] 37)).heap → QSt W B Q sb mb v (stepS s t)) := fun W e => (hpre.D.alloc _).same e
  have HM : Hid (∀ W, W.heap = ((w.setCell ⟨tb, t * 3 + 1, none⟩ (.int .i64 ((pc : Int) + 1))).alloc (.cells #[.int .i64 13, .int .i64 (ia : Int), .int .i64 (ib : Int), .int .i64 (ic : Int)] 37)).heap → W.os = w.os → W.tape = w.tape → W.output = w.output → Moved w W v v) := fun W e e1 e2 e3 => Moved.same (hpre.M.alloc _) e e1 e2 e3
  have HC : Hid (∀ W, W.heap = ((w.setCell ⟨tb, t * 3 + 1, none⟩ (.int .i64 ((pc : Int) + 1))).alloc (.cells #[.int .i64 13, .int .i64 (ia : Int), .int .i64 (ib : Int), .int .i64 (ic : Int)] 37)).heap → Calls Tryz.prog 105 #[.pointer (some ⟨sb, 0, none⟩), .int .i64 t, ints4 13 (ia : Int) (ib : Int) (ic : Int)] W (StepQ B Q sb mb v W (orderX Q.K.mode (stepS s t) t 13 (ia : Int) (ib : Int) (ic : Int)))) := fun W e => by
    by_cases heq : (stepS s t).words.getD ia 0 = getR (stepS s t) t (ib : Int)
    · exact touch_13y W B Q sb mb v (stepS s t) rg t ia ib ic hM (HMPX.out W (HD.out W e) (by rw [e]; simp [World.setCell])) (by rw [hsl]; exact htl) (by rw [hsl]; omega) hsr hrg2 (by show s.words.length ≤ 64; omega) hsf heq (by
        show (if (stepS s t).words.getD ia 0 = getR (stepS s t) t (ib : Int) then setR { stepS s t with words := (stepS s t).words.set ia (getR (stepS s t) t (ic : Int)) } t (ib : Int) 1 else _) = _
        rw [if_pos heq]) (by show ia < s.words.length; omega) hb hc
    · exact touch_13n W B Q sb mb v (stepS s t) rg t ia ib ic hM (HMPX.out W (HD.out W e) (by rw [e]; simp [World.setCell])) (by rw [hsl]; exact htl) (by rw [hsl]; omega) hsr hrg2 (by show s.words.length ≤ 64; omega) hsf heq (by
        show (if (stepS s t).words.getD ia 0 = getR (stepS s t) t (ib : Int) then _ else setR (stepS s t) t (ib : Int) 0) = _
        rw [if_neg heq]) (by show ia < s.words.length; omega) hb hc
  clear hord
  clear hx hpre hop hLT
  go_enter Tryz.func98, Tryz.ntmps98
  go_wp2
  go_region
  all_goals go_wp2_with fail
  all_goals refine Calls.mono (HC.out _ rfl) ?_
  all_goals rintro e w1 ⟨rfl, v1, hq1, hm1⟩
  all_goals go_wp2_with fail
  all_goals go_ret
  all_goals exact ⟨rfl, v1, hq1, (HM.out _ (by rfl) (by rfl) (by rfl) (by rfl)).trans hm1⟩
end

end Go.Proofs.YtefnmbnakphhfadGreatDoor
