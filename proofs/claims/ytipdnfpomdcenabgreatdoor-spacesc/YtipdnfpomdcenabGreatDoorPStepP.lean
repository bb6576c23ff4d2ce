/-
  A step of the program's run: what lies ahead of a thread's order.
-/
import Derived.Test.YtipdnfpomdcenabGreatDoorPTouch
import Derived.Test.YtipdnfpomdcenabGreatDoorRDoP
namespace Go.Proofs.YtipdnfpomdcenabGreatDoor
open Go.RowKit

/-- A thread that has an order more, in a run of the program. -/
structure Cy (w : World) (B : Nat) (Q : Cd) (sb mb : Nat) (v : Rp → Value) (s : Sx) (ca : Option Addr) (X : Nat → Nat → Nat → Int) (n m lk rg t : Nat) : Prop where
  ht : t < n
  hs : QSt w B Q sb mb v s
  hB : B ≤ w.heap.size
  ho : SOk n Q.L m lk rg Q.K.mode s
  hc : COk n Q.L X m lk rg
  hp : PIn w ca n Q.A Q.L Q.C X
  hlt : (thOf s t).pc < Q.L t
  hpr : s.prints.length ≤ 20000
  hf : s.fell = false
  hM : MLaw Q.K
  hnt : Q.nt = n
  room : opT X s t 0 = 9 ∨ opT X s t 0 = 11 ∨ opT X s t 0 = 18 → (thOf s t).wait.length < 3

structure PreP (w : World) (B : Nat) (Q : Cd) (sb mb : Nat) (v : Rp → Value) (s : Sx) (X : Nat → Nat → Nat → Int) (t n tb tc rb rc rg pc ob oo : Nat) : Prop where
  c1 : w.cell? ⟨sb, 1, none⟩ = some (.slice (some ⟨tb, 0, none⟩) n tc)
  cc : w.cell? ⟨tb, t * 3, none⟩ = some (.slice (some ⟨ob, oo, none⟩) (Q.L t) (Q.C t))
  cp : w.cell? ⟨tb, t * 3 + 1, none⟩ = some (.int .i64 pc)
  cf : w.frozen? ⟨tb, t * 3 + 1, none⟩ = false
  cr : w.cell? ⟨tb, t * 3 + 2, none⟩ = some (.slice (some ⟨rb, 0, none⟩) rg rc)
  y0 : w.cell? ⟨ob, oo + pc * 4, none⟩ = some (.int .i64 (opT X s t 0))
  y1 : w.cell? ⟨ob, oo + pc * 4 + 1, none⟩ = some (.int .i64 (opT X s t 1))
  y2 : w.cell? ⟨ob, oo + pc * 4 + 2, none⟩ = some (.int .i64 (opT X s t 2))
  y3 : w.cell? ⟨ob, oo + pc * 4 + 3, none⟩ = some (.int .i64 (opT X s t 3))
  D : QSt (w.setCell ⟨tb, t * 3 + 1, none⟩ (.int .i64 ((pc : Int) + 1))) B Q sb mb v (stepS s t)
  M : Moved w (w.setCell ⟨tb, t * 3 + 1, none⟩ (.int .i64 ((pc : Int) + 1))) v v
  btb : (v .thr).ownBlock = some tb
  brb : (v (.regs t)).ownBlock = some rb
  lsb : sb < w.heap.size
  ltb : tb < w.heap.size
  lrb : rb < w.heap.size
  ntr : tb ≠ rb
  nrt : rb ≠ tb
  nst : sb ≠ tb
  nts : tb ≠ sb
  nsr : sb ≠ rb
  nrs : rb ≠ sb
  lob : ob < w.heap.size
theorem Cy.mpre {w W : World} {B : Nat} {Q : Cd} {sb mb : Nat} {v : Rp → Value} {s : Sx} {ca : Option Addr} {X : Nat → Nat → Nat → Int} {n m lk rg t : Nat} (h : Cy w B Q sb mb v s ca X n m lk rg t) (hq : QSt W B Q sb mb v (stepS s t)) (hW : w.heap.size ≤ W.heap.size) : MPre W B Q sb mb v (stepS s t) t := by
  have hl := h.ho.ths
  have ht := h.ht
  have htl : t < s.ths.length := by omega
  have hsl : (stepS s t).ths.length = s.ths.length := stepS_len s t
  have hn4 := h.hc.n4
  refine ⟨hq, Nat.le_trans h.hB hW, by rw [hsl, hl]; exact h.hnt, by omega, by omega, ?_, ?_, ?_, ?_, ?_⟩
  · show s.words.length ≤ 64
    rw [h.ho.words]; exact h.hc.m64
  · show s.own.length ≤ 4
    rw [h.ho.own]; exact h.hc.lk4
  · rw [stepS_wait htl]; exact h.ho.wlen t ht
  · rw [stepS_wait htl]
    intro x hx
    show (0 ≤ x.wh ∧ x.wh < (if x.lk then s.own.length else s.words.length : Nat)) ∧ (x.lk = true → x.what = 0)
    rw [h.ho.words, h.ho.own]
    exact h.ho.wok t ht x hx
  · intro hb
    rw [stepS_wait htl]
    exact h.ho.bare (h.hM.mode0 hb) t ht
theorem Cy.pre {w : World} {B : Nat} {Q : Cd} {sb mb : Nat} {v : Rp → Value} {s : Sx} {ca : Option Addr} {X : Nat → Nat → Nat → Int} {n m lk rg t : Nat} (h : Cy w B Q sb mb v s ca X n m lk rg t) :
    ∃ tb tc rb rc pc ob oo : Nat, (t < n ∧ n ≤ 4 ∧ pc < Q.L t ∧ Q.L t ≤ 400) ∧ PreP w B Q sb mb v s X t n tb tc rb rc rg pc ob oo := by
  obtain ⟨ht, hs, hB, ho, hc, hp, hlt, _, _, _, _, _⟩ := h
  have hl := ho.ths
  have hrl := ho.regs t ht
  have hr0 := hc.rg0
  have htl : t < s.ths.length := by omega
  obtain ⟨tb, tc, hth, htb, hlt1⟩ := hs.blk .thr (by show 0 < s.ths.length; omega)
  obtain ⟨rb, rc, hrv, hrb, hlt2⟩ := hs.blk (.regs t) (by show 0 < (thOf s t).regs.length; omega)
  have c1 := hs.c1
  rw [hth] at c1
  change w.cell? ⟨sb, 1, none⟩ = some (.slice (some ⟨tb, 0, none⟩) s.ths.length tc) at c1
  rw [hl] at c1
  have cr := hs.regs htb htl
  rw [hrv] at cr
  change w.cell? ⟨tb, t * 3 + 2, none⟩ = some (.slice (some ⟨rb, 0, none⟩) (thOf s t).regs.length rc) at cr
  rw [hrl] at cr
  obtain ⟨ob, oo, hA, y0, y1, y2, y3⟩ := hp.ord t (thOf s t).pc ht hlt
  have cc := hs.code htb htl
  rw [hA] at cc
  have hD := hs.setPc htb htl ((thOf s t).pc + 1)
  have e : (((thOf s t).pc + 1 : Nat) : Int) = ((thOf s t).pc : Int) + 1 := by omega
  rw [e] at hD
  exact ⟨tb, tc, rb, rc, (thOf s t).pc, ob, oo, ⟨ht, hc.n4, hlt, hc.L4 t ht⟩, c1, cc, hs.pc htb htl, hs.fam.frozen htb _, cr, y0, y1, y2, y3, hD, (Moved.refl w v).put htb _ _, htb, hrb, lt_of_cell c1, hlt1, hlt2,
    hs.fam.ne htb hrb (by simp), hs.fam.ne hrb htb (by simp), hs.fam.ne hs.bst htb (by simp), hs.fam.ne htb hs.bst (by simp), hs.fam.ne hs.bst hrb (by simp), hs.fam.ne hrb hs.bst (by simp), lt_of_cell y0⟩
theorem PreP.reg {w : World} {B : Nat} {Q : Cd} {sb mb : Nat} {v : Rp → Value} {s : Sx} {X : Nat → Nat → Nat → Int} {t n tb tc rb rc rg pc ob oo : Nat} (h : PreP w B Q sb mb v s X t n tb tc rb rc rg pc ob oo) (ht : t < s.ths.length) {r : Nat} (hr : r < (thOf s t).regs.length) : w.cell? ⟨rb, r, none⟩ = some (.int .i64 (getR s t r)) := by
  have := h.D.reg h.brb (r := r) (by rw [stepS_regs ht]; exact hr)
  rw [stepS_getR ht, World.cell?_of_block (w := w) (Below.heap_setCell _ _ _ _ h.nrt)] at this
  exact this

end Go.Proofs.YtipdnfpomdcenabGreatDoor
