/-
  A step of the program's run: what lies ahead of a thread's order.
  What the program looks up and picks in a run: whether threads have ended, which number of the script is taken.
  Steps of the program's run.
  Steps of the program's run.
-/
import Derived.Test.YtelckcpjmekgcadGreatDoorPTouch
import Derived.Test.YtelckcpjmekgcadGreatDoorRMay
import Derived.Test.YtelckcpjmekgcadGreatDoorPTouch2
namespace Go.Proofs.YtelckcpjmekgcadGreatDoor
section
open Go.RowKit

/-- A thread that has an order more, in a run of the program. -/
structure Cy (w : World) (B : Nat) (Q : Cd) (sb mb : Nat) (v : Rp → Value) (s : Sx) (ca : Option Addr) (X : Nat → Nat → Nat → Int) (n m lk rg t : Nat) : Prop where
  ht : t < n
  hs : QSt w B Q sb mb v s
  hB : B ≤ w.heap.size
  ho : SOk n Q.L m lk rg Q.K.mode s
  hc : COk n Q.L X m lk rg
  hp : PIn w ca n Q.A Q.L Q.C X
  hlt : (thOf s t).pc < Q.L t
  hpr : s.prints.length ≤ 20000
  hf : s.fell = false
  hM : MLaw Q.K
  hnt : Q.nt = n
  room : opT X s t 0 = 9 ∨ opT X s t 0 = 11 ∨ opT X s t 0 = 18 → (thOf s t).wait.length < 3

structure PreP (w : World) (B : Nat) (Q : Cd) (sb mb : Nat) (v : Rp → Value) (s : Sx) (X : Nat → Nat → Nat → Int) (t n tb tc rb rc rg pc ob oo : Nat) : Prop where
  c1 : w.cell? ⟨sb, 1, none⟩ = some (.slice (some ⟨tb, 0, none⟩) n tc)
  cc : w.cell? ⟨tb, t * 3, none⟩ = some (.slice (some ⟨ob, oo, none⟩) (Q.L t) (Q.C t))
  cp : w.cell? ⟨tb, t * 3 + 1, none⟩ = some (.int .i64 pc)
  cf : w.frozen? ⟨tb, t * 3 + 1, none⟩ = false
  cr : w.cell? ⟨tb, t * 3 + 2, none⟩ = some (.slice (some ⟨rb, 0, none⟩) rg rc)
  y0 : w.cell? ⟨ob, oo + pc * 4, none⟩ = some (.int .i64 (opT X s t 0))
  y1 : w.cell? ⟨ob, oo + pc * 4 + 1, none⟩ = some (.int .i64 (opT X s t 1))
  y2 : w.cell? ⟨ob, oo + pc * 4 + 2, none⟩ = some (.int .i64 (opT X s t 2))
  y3 : w.cell? ⟨ob, oo + pc * 4 + 3, none⟩ = some (.int .i64 (opT X s t 3))
  D : QSt (w.setCell ⟨tb, t * 3 + 1, none⟩ (.int .i64 ((pc : Int) + 1))) B Q sb mb v (stepS s t)
  M : Moved w (w.setCell ⟨tb, t * 3 + 1, none⟩ (.int .i64 ((pc : Int) + 1))) v v
  btb : (v .thr).ownBlock = some tb
  brb : (v (.regs t)).ownBlock = some rb
  lsb : sb < w.heap.size
  ltb : tb < w.heap.size
  lrb : rb < w.heap.size
  ntr : tb ≠ rb
  nrt : rb ≠ tb
  nst : sb ≠ tb
  nts : tb ≠ sb
  nsr : sb ≠ rb
  nrs : rb ≠ sb
  lob : ob < w.heap.size
theorem Cy.mpre {w W : World} {B : Nat} {Q : Cd} {sb mb : Nat} {v : Rp → Value} {s : Sx} {ca : Option Addr} {X : Nat → Nat → Nat → Int} {n m lk rg t : Nat} (h : Cy w B Q sb mb v s ca X n m lk rg t) (hq : QSt W B Q sb mb v (stepS s t)) (hW : w.heap.size ≤ W.heap.size) : MPre W B Q sb mb v (stepS s t) t := by
  have hl := h.ho.ths
  have ht := h.ht
  have htl : t < s.ths.length := by omega
  have hsl : (stepS s t).ths.length = s.ths.length := stepS_len s t
  have hn4 := h.hc.n4
  refine ⟨hq, Nat.le_trans h.hB hW, by rw [hsl, hl]; exact h.hnt, by omega, by omega, ?_, ?_, ?_, ?_, ?_⟩
  · show s.words.length ≤ 64
    rw [h.ho.words]; exact h.hc.m64
  · show s.own.length ≤ 4
    rw [h.ho.own]; exact h.hc.lk4
  · rw [stepS_wait htl]; exact h.ho.wlen t ht
  · rw [stepS_wait htl]
    intro x hx
    show (0 ≤ x.wh ∧ x.wh < (if x.lk then s.own.length else s.words.length : Nat)) ∧ (x.lk = true → x.what = 0)
    rw [h.ho.words, h.ho.own]
    exact h.ho.wok t ht x hx
  · intro hb
    rw [stepS_wait htl]
    exact h.ho.bare (h.hM.mode0 hb) t ht
theorem Cy.pre {w : World} {B : Nat} {Q : Cd} {sb mb : Nat} {v : Rp → Value} {s : Sx} {ca : Option Addr} {X : Nat → Nat → Nat → Int} {n m lk rg t : Nat} (h : Cy w B Q sb mb v s ca X n m lk rg t) :
    ∃ tb tc rb rc pc ob oo : Nat, (t < n ∧ n ≤ 4 ∧ pc < Q.L t ∧ Q.L t ≤ 1000) ∧ PreP w B Q sb mb v s X t n tb tc rb rc rg pc ob oo := by
  obtain ⟨ht, hs, hB, ho, hc, hp, hlt, _, _, _, _, _⟩ := h
  have hl := ho.ths
  have hrl := ho.regs t ht
  have hr0 := hc.rg0
  have htl : t < s.ths.length := by omega
  obtain ⟨tb, tc, hth, htb, hlt1⟩ := hs.blk .thr (by show 0 < s.ths.length; omega)
  obtain ⟨rb, rc, hrv, hrb, hlt2⟩ := hs.blk (.regs t) (by show 0 < (thOf s t).regs.length; omega)
  have c1 := hs.c1
  rw [hth] at c1
  change w.cell? ⟨sb, 1, none⟩ = some (.slice (some ⟨tb, 0, none⟩) s.ths.length tc) at c1
  rw [hl] at c1
  have cr := hs.regs htb htl
  rw [hrv] at cr
  change w.cell? ⟨tb, t * 3 + 2, none⟩ = some (.slice (some ⟨rb, 0, none⟩) (thOf s t).regs.length rc) at cr
  rw [hrl] at cr
  obtain ⟨ob, oo, hA, y0, y1, y2, y3⟩ := hp.ord t (thOf s t).pc ht hlt
  have cc := hs.code htb htl
  rw [hA] at cc
  have hD := hs.setPc htb htl ((thOf s t).pc + 1)
  have e : (((thOf s t).pc + 1 : Nat) : Int) = ((thOf s t).pc : Int) + 1 := by omega
  rw [e] at hD
  exact ⟨tb, tc, rb, rc, (thOf s t).pc, ob, oo, ⟨ht, hc.n4, hlt, hc.L4 t ht⟩, c1, cc, hs.pc htb htl, hs.fam.frozen htb _, cr, y0, y1, y2, y3, hD, (Moved.refl w v).put htb _ _, htb, hrb, lt_of_cell c1, hlt1, hlt2,
    hs.fam.ne htb hrb (by simp), hs.fam.ne hrb htb (by simp), hs.fam.ne hs.bst htb (by simp), hs.fam.ne htb hs.bst (by simp), hs.fam.ne hs.bst hrb (by simp), hs.fam.ne hrb hs.bst (by simp), lt_of_cell y0⟩
theorem PreP.reg {w : World} {B : Nat} {Q : Cd} {sb mb : Nat} {v : Rp → Value} {s : Sx} {X : Nat → Nat → Nat → Int} {t n tb tc rb rc rg pc ob oo : Nat} (h : PreP w B Q sb mb v s X t n tb tc rb rc rg pc ob oo) (ht : t < s.ths.length) {r : Nat} (hr : r < (thOf s t).regs.length) : w.cell? ⟨rb, r, none⟩ = some (.int .i64 (getR s t r)) := by
  have := h.D.reg h.brb (r := r) (by rw [stepS_regs ht]; exact hr)
  rw [stepS_getR ht, World.cell?_of_block (w := w) (Below.heap_setCell _ _ _ _ h.nrt)] at this
  exact this
end

section
open Go.RowKit

set_option maxRecDepth 100000 in
set_option maxHeartbeats 1600000 in
theorem tended_any (w : World) (B : Nat) (Q : Cd) (sb mb : Nat) (v : Rp → Value) (s : Sx) (tb t : Nat) (hs : QSt w B Q sb mb v s) (htb : (v .thr).ownBlock = some tb) (ht : t < s.ths.length) (_hn : s.ths.length ≤ 4) (_hL : Q.L t ≤ 1000) (hpc : (thOf s t).pc ≤ Q.L t) :
    Calls Tryz.prog 56 #[.pointer (some ⟨tb, t * 3, none⟩)] w fun e w' => e = .returned (.bool (endedT Q.L s t)) ∧ ∃ k, w' = w.drewN k := by
  have c0 := hs.code htb ht
  have c1 := hs.pc htb ht
  have hr : endedT Q.L s t = decide ((thOf s t).pc = Q.L t) := by
    unfold endedT
    exact decide_eq_decide.2 (by omega)
  rw [hr]
  obtain ⟨pc, hp⟩ : ∃ x, (thOf s t).pc = x := ⟨_, rfl⟩
  obtain ⟨l, hl⟩ : ∃ x, Q.L t = x := ⟨_, rfl⟩
  rw [hp] at c1 hpc ⊢
  rw [hl] at c0 _hL hpc ⊢
  clear hs hr hp hl htb
  go_enter Tryz.func56, Tryz.ntmps56
  go_wp2
  go_quiet (fail)
  go_wp2
  go_ret
  exact ⟨ret_bool (by rw [Bool.eq_iff_iff]; simp; omega), nq, rfl⟩

/-- Have all threads ended? -/
def allEnded (L : Nat → Nat) (s : Sx) : Bool := (List.range s.ths.length).all fun t => endedT L s t
theorem ended_bare {L : Nat → Nat} {s : Sx} (h : ∀ t, t < s.ths.length → (thOf s t).wait = []) : endedX L s = allEnded L s := by
  unfold endedX allEnded
  rw [Bool.eq_iff_iff, List.all_eq_true, List.all_eq_true]
  constructor
  · intro h1 t ht
    have := h1 t ht
    simp at this
    exact this.1
  · intro h1 t ht
    rw [h1 t ht, h t (by simpa using ht)]
    rfl

set_option maxRecDepth 100000 in
set_option maxHeartbeats 1600000 in
theorem rest_any (w : World) (B : Nat) (Q : Cd) (sb mb : Nat) (v : Rp → Value) (s : Sx) (n : Nat) (hs : QSt w B Q sb mb v s) (hn : s.ths.length = n) (h0 : 0 < n) (h4 : n ≤ 4) (hL : ∀ t, t < n → Q.L t ≤ 1000) (hpc : ∀ t, t < n → (thOf s t).pc ≤ Q.L t) :
    Calls Tryz.prog 41 #[.pointer (some ⟨sb, 0, none⟩)] w fun e w' => e = .returned (.int .i64 (if allEnded Q.L s then 0 else 2)) ∧ Below w.heap.size w w' := by
  obtain ⟨tb, tc, hth, htb, _⟩ := hs.blk .thr (by show 0 < s.ths.length; omega)
  have c1 := hs.c1
  rw [hth] at c1
  change w.cell? ⟨sb, 1, none⟩ = some (.slice (some ⟨tb, 0, none⟩) s.ths.length tc) at c1
  rw [hn] at c1
  have HT : Hid (∀ wr t, t < n → Below w.heap.size w wr → Calls Tryz.prog 56 #[.pointer (some ⟨tb, t * 3, none⟩)] wr fun e w' => e = .returned (.bool (endedT Q.L s t)) ∧ ∃ k, w' = wr.drewN k) := fun wr t ht hb =>
    tended_any wr B Q sb mb v s tb t (hs.below hb) htb (by omega) (by omega) (hL t ht) (hpc t ht)
  obtain ⟨r, hr⟩ : ∃ r, allEnded Q.L s = r := ⟨_, rfl⟩
  have HR : Hid (allEnded Q.L s = r) := hr
  have HN : Hid (s.ths.length = n) := hn
  rw [hr]
  clear hr hs hth htb hn hL hpc h0
  go_enter Tryz.func41, Tryz.ntmps41
  go_wp2_with fail
  go_loopw [9] (fun i wr => ∃ j : Nat, j ≤ n ∧ i = .int .i64 j ∧ Hid (∀ p, p < j → endedT Q.L s p = true) ∧ Below w.heap.size w wr) (fun i _ => n - (intOf i).toNat)
  case atStart => exact ⟨0, Nat.zero_le _, rfl, fun p hp => absurd hp (Nat.not_lt_zero _), Below.refl _ _⟩
  case round =>
    obtain ⟨j, hj, rfl, HJ, hbr⟩ := hrel
    have c1r := (hbr.cell (lt_of_cell c1)).trans c1
    by_cases hlt : j < n
    · have HC := Hid.out (p := Hid _) (HT.out _ j hlt hbr)
      go_wp2_with fail
      refine Calls.mono HC.out ?_
      rintro e w1 ⟨rfl, kd, rfl⟩
      cases he : endedT Q.L s j with
      | true =>
        have HE : Hid (endedT Q.L s j = true) := he
        clear he HC
        go_wp2
        go_roundw
        case rel =>
          refine ⟨j + 1, by omega, by go_num, fun p hp => ?_, below_drewN hbr⟩
          rcases (by omega : p < j ∨ p = j) with h | rfl
          · exact HJ.out p h
          · exact HE.out
        case measure => simp [intOf]; omega
      | false =>
        obtain rfl : r = false := by
          rw [← HR.out]
          unfold allEnded
          rw [List.all_eq_false]
          exact ⟨j, by rw [HN.out]; simpa using hlt, by rw [he]; simp⟩
        clear he HC
        go_wp2
        go_ret
        exact ⟨rfl, below_drewN hbr⟩
    · obtain rfl : r = true := by
        rw [← HR.out]
        unfold allEnded
        rw [List.all_eq_true]
        intro p hp
        rw [HN.out] at hp
        exact HJ.out p (by simp at hp; omega)
      go_wp2
      go_ret
      exact ⟨rfl, hbr⟩
/-- Where nothing can be picked nothing waits. -/
theorem moves_bare {L : Nat → Nat} {X : Nat → Nat → Nat → Int} {mode : Int} {s : Sx} (h : movesX L X mode s = []) {t : Nat} (ht : t < s.ths.length) : (thOf s t).wait = [] := by
  unfold movesX at h
  rw [List.flatMap_eq_nil_iff] at h
  have h1 := h t (by simpa using ht)
  unfold movesT at h1
  rw [List.append_eq_nil_iff] at h1
  have h2 := h1.2
  rw [List.map_eq_nil_iff, List.filter_eq_nil_iff] at h2
  cases hw : (thOf s t).wait with
  | nil => rfl
  | cons a l => exact absurd (show mayW mode (thOf s t).wait 0 = true from rfl) (h2 0 (by simp [hw]))
end

section
open Go.RowKit

set_option maxRecDepth 100000 in
set_option maxHeartbeats 3200000 in
theorem step_14 (w : World) (B : Nat) (Q : Cd) (sb mb : Nat) (v : Rp → Value) (s : Sx) (ca : Option Addr) (X : Nat → Nat → Nat → Int) (n m lk rg t : Nat) (hx : Cy w B Q sb mb v s ca X n m lk rg t) (hop : opT X s t 0 = 14) :
    Calls Tryz.prog 89 #[.pointer (some ⟨sb, 0, none⟩), .int .i64 t] w (StepQ B Q sb mb v w (orderX Q.K.mode (stepS s t) t 14 (opT X s t 1) (opT X s t 2) (opT X s t 3))) := by
  obtain ⟨tb, tc, rb, rc, pc, ob, oo, ⟨htn, hn4, hpcl, hL4⟩, hpre⟩ := hx.pre
  have htl : t < s.ths.length := by have := hx.ho.ths; have := hx.ht; omega
  have hrl : (thOf s t).regs.length = rg := hx.ho.regs t hx.ht
  have hord := hx.hc.ord t (thOf s t).pc hx.ht hx.hlt
  have hrg2 := hx.hc.rg2
  have hwl : s.words.length = m := hx.ho.words
  have hol : s.own.length = lk := hx.ho.own
  have hm64 := hx.hc.m64
  have hlk4 := hx.hc.lk4
  have hM := hx.hM
  have hf := hx.hf
  have hthn := hx.ho.ths
  have hsl : (stepS s t).ths.length = s.ths.length := stepS_len s t
  have hsr : (thOf (stepS s t) t).regs.length = rg := by rw [stepS_regs htl]; exact hrl
  have HMPX : Hid (∀ W : World, QSt W B Q sb mb v (stepS s t) → w.heap.size ≤ W.heap.size → MPre W B Q sb mb v (stepS s t) t) := fun W hq hW => hx.mpre hq hW
  have hsf : (stepS s t).fell = false := hf
  change ordE rg m lk (Q.L t) (opT X s t 0) (opT X s t 1) (opT X s t 2) (opT X s t 3) = 0 at hord
  have d1 := hpre.c1
  have dc := hpre.cc
  have dp := hpre.cp
  have df := hpre.cf
  have dr := hpre.cr
  have y0 := hpre.y0
  have y1 := hpre.y1
  have y2 := hpre.y2
  have y3 := hpre.y3
  have nrt := hpre.nrt
  have ntr := hpre.ntr
  have nst := hpre.nst
  have nts := hpre.nts
  have lsb := hpre.lsb
  have lrb := hpre.lrb
  have ltb := hpre.ltb
  have lob := hpre.lob
  rw [hop] at hord y0
  obtain ⟨a, ea⟩ : ∃ x, opT X s t 1 = x := ⟨_, rfl⟩
  obtain ⟨b, eb⟩ : ∃ x, opT X s t 2 = x := ⟨_, rfl⟩
  obtain ⟨c, ec⟩ : ∃ x, opT X s t 3 = x := ⟨_, rfl⟩
  rw [ea, eb, ec] at hord ⊢
  rw [ea] at y1
  rw [eb] at y2
  rw [ec] at y3
  clear ea eb ec
  obtain ⟨ia, rfl, ha⟩ := toN_le (ok_jump hord)
  obtain ⟨LT, hLT⟩ : ∃ x, Q.L t = x := ⟨_, rfl⟩
  rw [hLT] at dc hpcl hL4
  have HP := Hid.out (p := Hid _) hpre
  have HX := Hid.out (p := Hid _) hx
  have HD : Hid (∀ W, W.heap = ((w.setCell ⟨tb, t * 3 + 1, none⟩ (.int .i64 ((pc : Int) + 1))).alloc (.cells #[.int .i64 14, .int .i64 (ia : Int), .int .i64 b, .int .i64 c] 37)).heap → QSt W B Q sb mb v (stepS s t)) := fun W e => (hpre.D.alloc _).same e
  have HM : Hid (∀ W, W.heap = ((w.setCell ⟨tb, t * 3 + 1, none⟩ (.int .i64 ((pc : Int) + 1))).alloc (.cells #[.int .i64 14, .int .i64 (ia : Int), .int .i64 b, .int .i64 c] 37)).heap → W.os = w.os → W.tape = w.tape → W.output = w.output → Moved w W v v) := fun W e e1 e2 e3 => Moved.same (hpre.M.alloc _) e e1 e2 e3
  have HST : Hid (orderX Q.K.mode (stepS s t) t 14 (ia : Int) b c = setTh s t { thOf s t with pc := ia }) := stepS_jump htl ia
  have HF : Hid (QSt (w.setCell ⟨tb, t * 3 + 1, none⟩ (.int .i64 (ia : Int))) B Q sb mb v (setTh s t { thOf s t with pc := ia }) ∧ Moved w (w.setCell ⟨tb, t * 3 + 1, none⟩ (.int .i64 (ia : Int))) v v) := ⟨hx.hs.setPc hpre.btb htl ia, (Moved.refl w v).put hpre.btb _ _⟩
  have HG : Hid (QSt ((w.setCell ⟨tb, t * 3 + 1, none⟩ (.int .i64 ((pc : Int) + 1))).setCell ⟨tb, t * 3 + 1, none⟩ (.int .i64 (ia : Int))) B Q sb mb v (setTh s t { thOf s t with pc := ia }) ∧ Moved w ((w.setCell ⟨tb, t * 3 + 1, none⟩ (.int .i64 ((pc : Int) + 1))).setCell ⟨tb, t * 3 + 1, none⟩ (.int .i64 (ia : Int))) v v) := ⟨by have := hpre.D.setPc hpre.btb (by rw [hsl]; exact htl) ia; rwa [stepS_jump htl] at this, hpre.M.put hpre.btb _ _⟩
  clear hord
  clear hx hpre hop hLT
  go_enter Tryz.func89, Tryz.ntmps89
  go_wp2
  go_region
  all_goals go_wp2
  all_goals go_ret
  all_goals refine ⟨?_, v, ?_⟩
  all_goals rw [HST.out]
  all_goals first | (show _ = Ending.returned (.bool (!s.fell)); rw [hf]; rfl) | exact ⟨QSt.same (HF.out.1.alloc _) rfl, Moved.same (HF.out.2.alloc _) rfl rfl rfl rfl⟩ | exact ⟨QSt.same (HG.out.1.alloc _) rfl, Moved.same (HG.out.2.alloc _) rfl rfl rfl rfl⟩

set_option maxRecDepth 100000 in
set_option maxHeartbeats 3200000 in
theorem step_17 (w : World) (B : Nat) (Q : Cd) (sb mb : Nat) (v : Rp → Value) (s : Sx) (ca : Option Addr) (X : Nat → Nat → Nat → Int) (n m lk rg t : Nat) (hx : Cy w B Q sb mb v s ca X n m lk rg t) (hop : opT X s t 0 = 17) :
    Calls Tryz.prog 89 #[.pointer (some ⟨sb, 0, none⟩), .int .i64 t] w (StepQ B Q sb mb v w (orderX Q.K.mode (stepS s t) t 17 (opT X s t 1) (opT X s t 2) (opT X s t 3))) := by
  obtain ⟨tb, tc, rb, rc, pc, ob, oo, ⟨htn, hn4, hpcl, hL4⟩, hpre⟩ := hx.pre
  have htl : t < s.ths.length := by have := hx.ho.ths; have := hx.ht; omega
  have hrl : (thOf s t).regs.length = rg := hx.ho.regs t hx.ht
  have hord := hx.hc.ord t (thOf s t).pc hx.ht hx.hlt
  have hrg2 := hx.hc.rg2
  have hwl : s.words.length = m := hx.ho.words
  have hol : s.own.length = lk := hx.ho.own
  have hm64 := hx.hc.m64
  have hlk4 := hx.hc.lk4
  have hM := hx.hM
  have hf := hx.hf
  have hthn := hx.ho.ths
  have hsl : (stepS s t).ths.length = s.ths.length := stepS_len s t
  have hsr : (thOf (stepS s t) t).regs.length = rg := by rw [stepS_regs htl]; exact hrl
  have HMPX : Hid (∀ W : World, QSt W B Q sb mb v (stepS s t) → w.heap.size ≤ W.heap.size → MPre W B Q sb mb v (stepS s t) t) := fun W hq hW => hx.mpre hq hW
  have hsf : (stepS s t).fell = false := hf
  change ordE rg m lk (Q.L t) (opT X s t 0) (opT X s t 1) (opT X s t 2) (opT X s t 3) = 0 at hord
  have d1 := hpre.c1
  have dc := hpre.cc
  have dp := hpre.cp
  have df := hpre.cf
  have dr := hpre.cr
  have y0 := hpre.y0
  have y1 := hpre.y1
  have y2 := hpre.y2
  have y3 := hpre.y3
  have nrt := hpre.nrt
  have ntr := hpre.ntr
  have nst := hpre.nst
  have nts := hpre.nts
  have lsb := hpre.lsb
  have lrb := hpre.lrb
  have ltb := hpre.ltb
  have lob := hpre.lob
  rw [hop] at hord y0
  obtain ⟨a, ea⟩ : ∃ x, opT X s t 1 = x := ⟨_, rfl⟩
  obtain ⟨b, eb⟩ : ∃ x, opT X s t 2 = x := ⟨_, rfl⟩
  obtain ⟨c, ec⟩ : ∃ x, opT X s t 3 = x := ⟨_, rfl⟩
  rw [ea, eb, ec] at hord ⊢
  rw [ea] at y1
  rw [eb] at y2
  rw [ec] at y3
  clear ea eb ec
  obtain ⟨ia, rfl, ha⟩ := toN (ok_lock (Or.inl rfl) hord)
  obtain ⟨LT, hLT⟩ : ∃ x, Q.L t = x := ⟨_, rfl⟩
  rw [hLT] at dc hpcl hL4
  have HP := Hid.out (p := Hid _) hpre
  have HX := Hid.out (p := Hid _) hx
  have HD : Hid (∀ W, W.heap = ((w.setCell ⟨tb, t * 3 + 1, none⟩ (.int .i64 ((pc : Int) + 1))).alloc (.cells #[.int .i64 17, .int .i64 (ia : Int), .int .i64 b, .int .i64 c] 37)).heap → QSt W B Q sb mb v (stepS s t)) := fun W e => (hpre.D.alloc _).same e
  have HM : Hid (∀ W, W.heap = ((w.setCell ⟨tb, t * 3 + 1, none⟩ (.int .i64 ((pc : Int) + 1))).alloc (.cells #[.int .i64 17, .int .i64 (ia : Int), .int .i64 b, .int .i64 c] 37)).heap → W.os = w.os → W.tape = w.tape → W.output = w.output → Moved w W v v) := fun W e e1 e2 e3 => Moved.same (hpre.M.alloc _) e e1 e2 e3
  have HST : Hid (orderX Q.K.mode (stepS s t) t 17 (ia : Int) b c = { stepS s t with own := (stepS s t).own.set ia (t : Int) }) := rfl
  have c0 := hpre.D.c0
  have c0' := (World.cell?_of_block (w := w) (a := ⟨sb, 0, none⟩) (Below.heap_setCell _ _ _ _ nst)).symm.trans c0
  have mLk1 := hM.mLock ((w.setCell ⟨tb, t * 3 + 1, none⟩ (.int .i64 ((pc : Int) + 1))).alloc (.cells #[.int .i64 17, .int .i64 (ia : Int), .int .i64 b, .int .i64 c] 37)).drew B Q sb mb v (stepS s t) rfl (HD.out _ rfl)
  have mLk2 := hM.mLock ((w.setCell ⟨tb, t * 3 + 1, none⟩ (.int .i64 ((pc : Int) + 1))).alloc (.cells #[.int .i64 17, .int .i64 (ia : Int), .int .i64 b, .int .i64 c] 37)).drew.drew B Q sb mb v (stepS s t) rfl (HD.out _ rfl)
  have HC : Hid (∀ W, W.heap = ((w.setCell ⟨tb, t * 3 + 1, none⟩ (.int .i64 ((pc : Int) + 1))).alloc (.cells #[.int .i64 17, .int .i64 (ia : Int), .int .i64 b, .int .i64 c] 37)).heap → Calls Tryz.prog 131 #[.pointer (some ⟨mb, 0, none⟩), .int .i64 t, .int .i64 (ia : Int)] W fun e w' => e = .returned (.tuple #[]) ∧ QSt w' B Q sb mb v { stepS s t with own := (stepS s t).own.set ia (t : Int) } ∧ Moved W w' v v) := fun W e => plock_any W B Q sb mb v (stepS s t) t ia (HD.out W e) (by show s.own.length ≤ 4; omega) (by show ia < s.own.length; omega)
  clear hord c0
  clear hx hpre hop hLT
  go_enter Tryz.func89, Tryz.ntmps89
  go_wp2
  go_region
  all_goals go_wp2
  all_goals (refine region_tail 7 (by kernel_rfl) (by kernel_rfl) ?_)
  all_goals simp only [List.take_succ_cons, List.take_zero, List.drop_succ_cons, List.drop_zero]
  all_goals repeat still_step
  all_goals refine wpStill_nil ?_
  all_goals go_wp2_with fail
  all_goals refine Calls.mono (HC.out _ rfl) ?_
  all_goals rintro e w1 ⟨rfl, hq1, hm1⟩
  all_goals go_wp2_with fail
  all_goals go_ret
  all_goals refine ⟨?_, v, ?_, (HM.out _ (by rfl) (by rfl) (by rfl) (by rfl)).trans hm1⟩
  all_goals rw [HST.out]
  all_goals first | exact hq1 | (show _ = Ending.returned (.bool (!s.fell)); rw [hf]; rfl)

set_option maxRecDepth 100000 in
set_option maxHeartbeats 3200000 in
theorem step_18 (w : World) (B : Nat) (Q : Cd) (sb mb : Nat) (v : Rp → Value) (s : Sx) (ca : Option Addr) (X : Nat → Nat → Nat → Int) (n m lk rg t : Nat) (hx : Cy w B Q sb mb v s ca X n m lk rg t) (hop : opT X s t 0 = 18) :
    Calls Tryz.prog 89 #[.pointer (some ⟨sb, 0, none⟩), .int .i64 t] w (StepQ B Q sb mb v w (orderX Q.K.mode (stepS s t) t 18 (opT X s t 1) (opT X s t 2) (opT X s t 3))) := by
  obtain ⟨tb, tc, rb, rc, pc, ob, oo, ⟨htn, hn4, hpcl, hL4⟩, hpre⟩ := hx.pre
  have htl : t < s.ths.length := by have := hx.ho.ths; have := hx.ht; omega
  have hrl : (thOf s t).regs.length = rg := hx.ho.regs t hx.ht
  have hord := hx.hc.ord t (thOf s t).pc hx.ht hx.hlt
  have hrg2 := hx.hc.rg2
  have hwl : s.words.length = m := hx.ho.words
  have hol : s.own.length = lk := hx.ho.own
  have hm64 := hx.hc.m64
  have hlk4 := hx.hc.lk4
  have hM := hx.hM
  have hf := hx.hf
  have hthn := hx.ho.ths
  have hsl : (stepS s t).ths.length = s.ths.length := stepS_len s t
  have hsr : (thOf (stepS s t) t).regs.length = rg := by rw [stepS_regs htl]; exact hrl
  have HMPX : Hid (∀ W : World, QSt W B Q sb mb v (stepS s t) → w.heap.size ≤ W.heap.size → MPre W B Q sb mb v (stepS s t) t) := fun W hq hW => hx.mpre hq hW
  have hsf : (stepS s t).fell = false := hf
  change ordE rg m lk (Q.L t) (opT X s t 0) (opT X s t 1) (opT X s t 2) (opT X s t 3) = 0 at hord
  have d1 := hpre.c1
  have dc := hpre.cc
  have dp := hpre.cp
  have df := hpre.cf
  have dr := hpre.cr
  have y0 := hpre.y0
  have y1 := hpre.y1
  have y2 := hpre.y2
  have y3 := hpre.y3
  have nrt := hpre.nrt
  have ntr := hpre.ntr
  have nst := hpre.nst
  have nts := hpre.nts
  have lsb := hpre.lsb
  have lrb := hpre.lrb
  have ltb := hpre.ltb
  have lob := hpre.lob
  rw [hop] at hord y0
  obtain ⟨a, ea⟩ : ∃ x, opT X s t 1 = x := ⟨_, rfl⟩
  obtain ⟨b, eb⟩ : ∃ x, opT X s t 2 = x := ⟨_, rfl⟩
  obtain ⟨c, ec⟩ : ∃ x, opT X s t 3 = x := ⟨_, rfl⟩
  rw [ea, eb, ec] at hord ⊢
  rw [ea] at y1
  rw [eb] at y2
  rw [ec] at y3
  clear ea eb ec
  obtain ⟨ia, rfl, ha⟩ := toN (ok_lock (Or.inr rfl) hord)
  obtain ⟨LT, hLT⟩ : ∃ x, Q.L t = x := ⟨_, rfl⟩
  rw [hLT] at dc hpcl hL4
  have HP := Hid.out (p := Hid _) hpre
  have HX := Hid.out (p := Hid _) hx
  have HD : Hid (∀ W, W.heap = ((w.setCell ⟨tb, t * 3 + 1, none⟩ (.int .i64 ((pc : Int) + 1))).alloc (.cells #[.int .i64 18, .int .i64 (ia : Int), .int .i64 b, .int .i64 c] 37)).heap → QSt W B Q sb mb v (stepS s t)) := fun W e => (hpre.D.alloc _).same e
  have HM : Hid (∀ W, W.heap = ((w.setCell ⟨tb, t * 3 + 1, none⟩ (.int .i64 ((pc : Int) + 1))).alloc (.cells #[.int .i64 18, .int .i64 (ia : Int), .int .i64 b, .int .i64 c] 37)).heap → W.os = w.os → W.tape = w.tape → W.output = w.output → Moved w W v v) := fun W e e1 e2 e3 => Moved.same (hpre.M.alloc _) e e1 e2 e3
  have c0 := hpre.D.c0
  have c0' := (World.cell?_of_block (w := w) (a := ⟨sb, 0, none⟩) (Below.heap_setCell _ _ _ _ nst)).symm.trans c0
  have mUn := hM.mUnlock
  have kmUn := hM.cUnlock
  have HRM : Hid ((thOf (stepS s t) t).wait.length < 3) := by show _ < _; rw [stepS_wait htl]; exact hx.room (by rw [hop]; decide)
  have HC : Hid (∀ W, W.heap = ((w.setCell ⟨tb, t * 3 + 1, none⟩ (.int .i64 ((pc : Int) + 1))).alloc (.cells #[.int .i64 18, .int .i64 (ia : Int), .int .i64 b, .int .i64 c] 37)).heap → Calls Tryz.prog Q.K.unlock #[.pointer (some ⟨Q.top mb, 0, none⟩), .int .i64 t, .int .i64 (ia : Int)] W (StepQ B Q sb mb v W (orderX Q.K.mode (stepS s t) t 18 (ia : Int) b c))) := fun W e => by
    have key : orderX Q.K.mode (stepS s t) t 18 (ia : Int) b c = (if (stepS s t).own.getD ia 0 ≠ (t : Int) ∨ ((thOf (stepS s t) t).wait.any fun x => x.lk && decide (x.wh = (ia : Int))) = true then fallX (stepS s t) else storeW Q.K.mode (stepS s t) t ⟨true, (ia : Int), 0⟩) := rfl
    by_cases hown : (stepS s t).own.getD ia 0 ≠ (t : Int) ∨ ((thOf (stepS s t) t).wait.any fun x => x.lk && decide (x.wh = (ia : Int))) = true
    · rw [if_pos hown] at key
      refine (hM.unlockN W B Q sb mb v (stepS s t) t ia rfl (HMPX.out W (HD.out W e) (by rw [e]; simp [World.setCell])) (by show ia < s.own.length; omega) hown).mono fun e w' h => ⟨?_, v, ?_, ?_⟩
      · rw [h.1, key]; rfl
      · rw [key]; exact ((HD.out W ‹_›).below h.2).fall
      · exact Moved.of_below h.2
    · rw [if_neg hown] at key
      have hown' : (stepS s t).own.getD ia 0 = (t : Int) ∧ ((thOf (stepS s t) t).wait.any fun x => x.lk && decide (x.wh = (ia : Int))) = false := by
        constructor
        · exact Classical.not_not.mp fun h => hown (Or.inl h)
        · exact Bool.eq_false_iff.mpr fun h => hown (Or.inr h)
      refine (hM.unlockY W B Q sb mb v (stepS s t) t ia rfl (HMPX.out W (HD.out W e) (by rw [e]; simp [World.setCell])) (by show ia < s.own.length; omega) HRM.out hown'.1 hown'.2).mono fun e w' h => ⟨?_, h.2.choose, ?_, ?_⟩
      · rw [h.1, key, fell_store, hsf]; rfl
      · rw [key]; exact h.2.choose_spec.1
      · exact h.2.choose_spec.2.1
  clear hord c0
  clear hx hpre hop hLT
  go_enter Tryz.func89, Tryz.ntmps89
  go_wp2
  go_region
  all_goals go_wp2
  all_goals (refine region_tail 7 (by kernel_rfl) (by kernel_rfl) ?_)
  all_goals simp only [List.take_succ_cons, List.take_zero, List.drop_succ_cons, List.drop_zero]
  all_goals repeat still_step
  all_goals refine wpStill_nil ?_
  all_goals go_wp2_with fail
  all_goals refine Calls.mono (HC.out _ rfl) ?_
  all_goals rintro e w1 ⟨rfl, v1, hq1, hm1⟩
  all_goals go_wp2_with fail
  all_goals go_ret
  all_goals exact ⟨rfl, v1, hq1, (HM.out _ (by rfl) (by rfl) (by rfl) (by rfl)).trans hm1⟩
end

section
open Go.RowKit

set_option maxRecDepth 100000 in
set_option maxHeartbeats 3200000 in
theorem step_13 (w : World) (B : Nat) (Q : Cd) (sb mb : Nat) (v : Rp → Value) (s : Sx) (ca : Option Addr) (X : Nat → Nat → Nat → Int) (n m lk rg t : Nat) (hx : Cy w B Q sb mb v s ca X n m lk rg t) (hop : opT X s t 0 = 13) :
    Calls Tryz.prog 89 #[.pointer (some ⟨sb, 0, none⟩), .int .i64 t] w (StepQ B Q sb mb v w (orderX Q.K.mode (stepS s t) t 13 (opT X s t 1) (opT X s t 2) (opT X s t 3))) := by
  obtain ⟨tb, tc, rb, rc, pc, ob, oo, ⟨htn, hn4, hpcl, hL4⟩, hpre⟩ := hx.pre
  have htl : t < s.ths.length := by have := hx.ho.ths; have := hx.ht; omega
  have hrl : (thOf s t).regs.length = rg := hx.ho.regs t hx.ht
  have hord := hx.hc.ord t (thOf s t).pc hx.ht hx.hlt
  have hrg2 := hx.hc.rg2
  have hwl : s.words.length = m := hx.ho.words
  have hol : s.own.length = lk := hx.ho.own
  have hm64 := hx.hc.m64
  have hlk4 := hx.hc.lk4
  have hM := hx.hM
  have hf := hx.hf
  have hthn := hx.ho.ths
  have hsl : (stepS s t).ths.length = s.ths.length := stepS_len s t
  have hsr : (thOf (stepS s t) t).regs.length = rg := by rw [stepS_regs htl]; exact hrl
  have HMPX : Hid (∀ W : World, QSt W B Q sb mb v (stepS s t) → w.heap.size ≤ W.heap.size → MPre W B Q sb mb v (stepS s t) t) := fun W hq hW => hx.mpre hq hW
  have hsf : (stepS s t).fell = false := hf
  change ordE rg m lk (Q.L t) (opT X s t 0) (opT X s t 1) (opT X s t 2) (opT X s t 3) = 0 at hord
  have d1 := hpre.c1
  have dc := hpre.cc
  have dp := hpre.cp
  have df := hpre.cf
  have dr := hpre.cr
  have y0 := hpre.y0
  have y1 := hpre.y1
  have y2 := hpre.y2
  have y3 := hpre.y3
  have nrt := hpre.nrt
  have ntr := hpre.ntr
  have nst := hpre.nst
  have nts := hpre.nts
  have lsb := hpre.lsb
  have lrb := hpre.lrb
  have ltb := hpre.ltb
  have lob := hpre.lob
  rw [hop] at hord y0
  obtain ⟨a, ea⟩ : ∃ x, opT X s t 1 = x := ⟨_, rfl⟩
  obtain ⟨b, eb⟩ : ∃ x, opT X s t 2 = x := ⟨_, rfl⟩
  obtain ⟨c, ec⟩ : ∃ x, opT X s t 3 = x := ⟨_, rfl⟩
  rw [ea, eb, ec] at hord ⊢
  rw [ea] at y1
  rw [eb] at y2
  rw [ec] at y3
  clear ea eb ec
  obtain ⟨⟨ia, rfl, ha⟩, ⟨ib, rfl, hb⟩, ⟨ic, rfl, hc⟩⟩ := by
    have h3 := ok_cas hord
    exact (⟨toN h3.1, toN h3.2.1, toN h3.2.2⟩ : _ ∧ _ ∧ _)
  obtain ⟨LT, hLT⟩ : ∃ x, Q.L t = x := ⟨_, rfl⟩
  rw [hLT] at dc hpcl hL4
  have HP := Hid.out (p := Hid _) hpre
  have HX := Hid.out (p := Hid _) hx
  have HD : Hid (∀ W, W.heap = ((w.setCell ⟨tb, t * 3 + 1, none⟩ (.int .i64 ((pc : Int) + 1))).alloc (.cells #[.int .i64 13, .int .i64 (ia : Int), .int .i64 (ib : Int), .int .i64 (ic : Int)] 37)).heap → QSt W B Q sb mb v (stepS s t)) := fun W e => (hpre.D.alloc _).same e
  have HM : Hid (∀ W, W.heap = ((w.setCell ⟨tb, t * 3 + 1, none⟩ (.int .i64 ((pc : Int) + 1))).alloc (.cells #[.int .i64 13, .int .i64 (ia : Int), .int .i64 (ib : Int), .int .i64 (ic : Int)] 37)).heap → W.os = w.os → W.tape = w.tape → W.output = w.output → Moved w W v v) := fun W e e1 e2 e3 => Moved.same (hpre.M.alloc _) e e1 e2 e3
  have HC : Hid (∀ W, W.heap = ((w.setCell ⟨tb, t * 3 + 1, none⟩ (.int .i64 ((pc : Int) + 1))).alloc (.cells #[.int .i64 13, .int .i64 (ia : Int), .int .i64 (ib : Int), .int .i64 (ic : Int)] 37)).heap → Calls Tryz.prog 96 #[.pointer (some ⟨sb, 0, none⟩), .int .i64 t, ints4 13 (ia : Int) (ib : Int) (ic : Int)] W (StepQ B Q sb mb v W (orderX Q.K.mode (stepS s t) t 13 (ia : Int) (ib : Int) (ic : Int)))) := fun W e => by
    by_cases heq : (stepS s t).words.getD ia 0 = getR (stepS s t) t (ib : Int)
    · exact touch_13y W B Q sb mb v (stepS s t) rg t ia ib ic hM (HMPX.out W (HD.out W e) (by rw [e]; simp [World.setCell])) (by rw [hsl]; exact htl) (by rw [hsl]; omega) hsr hrg2 (by show s.words.length ≤ 64; omega) hsf heq (by
        show (if (stepS s t).words.getD ia 0 = getR (stepS s t) t (ib : Int) then setR { stepS s t with words := (stepS s t).words.set ia (getR (stepS s t) t (ic : Int)) } t (ib : Int) 1 else _) = _
        rw [if_pos heq]) (by show ia < s.words.length; omega) hb hc
    · exact touch_13n W B Q sb mb v (stepS s t) rg t ia ib ic hM (HMPX.out W (HD.out W e) (by rw [e]; simp [World.setCell])) (by rw [hsl]; exact htl) (by rw [hsl]; omega) hsr hrg2 (by show s.words.length ≤ 64; omega) hsf heq (by
        show (if (stepS s t).words.getD ia 0 = getR (stepS s t) t (ib : Int) then _ else setR (stepS s t) t (ib : Int) 0) = _
        rw [if_neg heq]) (by show ia < s.words.length; omega) hb hc
  clear hord
  clear hx hpre hop hLT
  go_enter Tryz.func89, Tryz.ntmps89
  go_wp2
  go_region
  all_goals go_wp2_with fail
  all_goals refine Calls.mono (HC.out _ rfl) ?_
  all_goals rintro e w1 ⟨rfl, v1, hq1, hm1⟩
  all_goals go_wp2_with fail
  all_goals go_ret
  all_goals exact ⟨rfl, v1, hq1, (HM.out _ (by rfl) (by rfl) (by rfl) (by rfl)).trans hm1⟩
end

end Go.Proofs.YtelckcpjmekgcadGreatDoor
