/-
  The state of a run of the program as it lies in memory, with all its rows; what a store and an append make of it.
-/
import Derived.Test.YtjheojfpnfkloaaDSt
import Derived.Test.YtjheojfpnfkloaaRDoP
namespace Go.Proofs.Ytjheojfpnfkloaa
open Go.RowKit

/-- The rows of the program's state. -/
inductive Rp where
  | st
  | thr
  | prints
  | regs (t : Nat)
  | mem
  | words
  | own
deriving DecidableEq

def pTy : Rp → TypeId
  | .st => 82
  | .thr => 109
  | .mem => 93
  | _ => 3
def pSz : Rp → Nat
  | .st => 3
  | .thr => 3
  | .mem => 2
  | _ => 1
def pN (s : Sx) : Rp → Nat
  | .st => 1
  | .thr => s.ths.length
  | .prints => s.prints.length
  | .regs t => (thOf s t).regs.length
  | .mem => 1
  | .words => s.words.length
  | .own => s.own.length
/-- A program's code as values. -/
structure Cd where
  A : Nat → Option Addr
  L : Nat → Nat
  C : Nat → Nat
def pthC (Q : Cd) (v : Rp → Value) (s : Sx) (t j : Nat) : Value := if j = 0 then .slice (Q.A t) (Q.L t) (Q.C t) else if j = 1 then .int .i64 (thOf s t).pc else v (.regs t)
def pX (Q : Cd) (mb : Nat) (v : Rp → Value) (s : Sx) : Rp → List Value
  | .st => [.iface 56 (.pointer (some ⟨mb, 0, none⟩)), v .thr, v .prints]
  | .thr => rows3 s.ths.length (pthC Q v s)
  | .prints => intsV s.prints
  | .regs t => intsV (thOf s t).regs
  | .mem => [v .words, v .own]
  | .words => intsV s.words
  | .own => intsV s.own
structure QSt (w : World) (B : Nat) (Q : Cd) (sb mb : Nat) (v : Rp → Value) (s : Sx) : Prop where
  fam : Fam w B pTy pSz v (pN s) (pX Q mb v s)
  st : v .st = boxV sb
  mem : v .mem = boxV mb

section
variable {w w1 : World} {B : Nat} {Q : Cd} {sb mb : Nat} {v : Rp → Value} {s : Sx}
theorem QSt.below (h : QSt w B Q sb mb v s) (hb : Below w.heap.size w w1) : QSt w1 B Q sb mb v s := ⟨h.fam.below hb, h.st, h.mem⟩
theorem QSt.same (h : QSt w B Q sb mb v s) (e : w1.heap = w.heap) : QSt w1 B Q sb mb v s := ⟨⟨fun r => fam_keeps (h.fam.own r) (fun g _ => by rw [e]), h.fam.apart⟩, h.st, h.mem⟩
theorem QSt.alloc (h : QSt w B Q sb mb v s) (o : Obj) : QSt (w.alloc o) B Q sb mb v s := h.below ((Below.refl _ _).alloc (Nat.le_refl _) _)
theorem QSt.bst (h : QSt w B Q sb mb v s) : (v .st).ownBlock = some sb := by rw [h.st]; rfl
theorem QSt.bmem (h : QSt w B Q sb mb v s) : (v .mem).ownBlock = some mb := by rw [h.mem]; rfl
theorem QSt.c0 (h : QSt w B Q sb mb v s) : w.cell? ⟨sb, 0, none⟩ = some (.iface 56 (.pointer (some ⟨mb, 0, none⟩))) := h.fam.cell h.bst rfl
theorem QSt.c1 (h : QSt w B Q sb mb v s) : w.cell? ⟨sb, 1, none⟩ = some (v .thr) := h.fam.cell h.bst rfl
theorem QSt.c2 (h : QSt w B Q sb mb v s) : w.cell? ⟨sb, 2, none⟩ = some (v .prints) := h.fam.cell h.bst rfl
theorem QSt.m0 (h : QSt w B Q sb mb v s) : w.cell? ⟨mb, 0, none⟩ = some (v .words) := h.fam.cell h.bmem rfl
theorem QSt.m1 (h : QSt w B Q sb mb v s) : w.cell? ⟨mb, 1, none⟩ = some (v .own) := h.fam.cell h.bmem rfl
theorem QSt.form (h : QSt w B Q sb mb v s) (r : Rp) : ∃ a c, v r = .slice a (pN s r) c := fam_form (h.fam.own r)
theorem QSt.blk (h : QSt w B Q sb mb v s) (r : Rp) (hn : 0 < pN s r) : ∃ g c, v r = .slice (some ⟨g, 0, none⟩) (pN s r) c ∧ (v r).ownBlock = some g ∧ g < w.heap.size := by
  obtain ⟨g, c, h1, h2, _, h4⟩ := fam_block (h.fam.own r) hn
  exact ⟨g, c, h1, h2, h4⟩
theorem QSt.code (h : QSt w B Q sb mb v s) {tb t : Nat} (e : (v .thr).ownBlock = some tb) (ht : t < s.ths.length) : w.cell? ⟨tb, t * 3, none⟩ = some (.slice (Q.A t) (Q.L t) (Q.C t)) := h.fam.cell e (rows3_get (j := 0) ht (by omega))
theorem QSt.pc (h : QSt w B Q sb mb v s) {tb t : Nat} (e : (v .thr).ownBlock = some tb) (ht : t < s.ths.length) : w.cell? ⟨tb, t * 3 + 1, none⟩ = some (.int .i64 (thOf s t).pc) := h.fam.cell e (rows3_get (j := 1) ht (by omega))
theorem QSt.regs (h : QSt w B Q sb mb v s) {tb t : Nat} (e : (v .thr).ownBlock = some tb) (ht : t < s.ths.length) : w.cell? ⟨tb, t * 3 + 2, none⟩ = some (v (.regs t)) := h.fam.cell e (rows3_get (j := 2) ht (by omega))
theorem QSt.reg (h : QSt w B Q sb mb v s) {rb t r : Nat} (e : (v (.regs t)).ownBlock = some rb) (hr : r < (thOf s t).regs.length) : w.cell? ⟨rb, r, none⟩ = some (.int .i64 (getR s t r)) := by
  refine (h.fam.cell e (intsV_at hr)).trans ?_
  simp [getR]
theorem QSt.word (h : QSt w B Q sb mb v s) {rb r : Nat} (e : (v .words).ownBlock = some rb) (hr : r < s.words.length) : w.cell? ⟨rb, r, none⟩ = some (.int .i64 (s.words.getD r 0)) := h.fam.cell e (intsV_at hr)
theorem QSt.owner (h : QSt w B Q sb mb v s) {rb r : Nat} (e : (v .own).ownBlock = some rb) (hr : r < s.own.length) : w.cell? ⟨rb, r, none⟩ = some (.int .i64 (s.own.getD r 0)) := h.fam.cell e (intsV_at hr)

theorem pN_setTh {t : Nat} (ht : t < s.ths.length) {x : Th} (hr : x.regs.length = (thOf s t).regs.length) : ∀ q, pN (setTh s t x) q = pN s q
  | .st => rfl
  | .thr => ths_set _ _ _
  | .words => rfl
  | .own => rfl
  | .prints => rfl
  | .mem => rfl
  | .regs u => by
    show (thOf (setTh s t x) u).regs.length = (thOf s u).regs.length
    rw [thOf_set ht]
    split
    · rename_i h; rw [h]; exact hr
    · rfl
theorem pX_setTh {t : Nat} (ht : t < s.ths.length) {x : Th} : (∀ q, q ≠ .thr → (q = .regs t → x.regs = (thOf s t).regs) → pX Q mb v (setTh s t x) q = pX Q mb v s q)
  | .st, _, _ => rfl
  | .thr, h, _ => absurd rfl h
  | .words, _, _ => rfl
  | .own, _, _ => rfl
  | .prints, _, _ => rfl
  | .mem, _, _ => rfl
  | .regs u, _, h => by
    show intsV (thOf (setTh s t x) u).regs = intsV (thOf s u).regs
    rw [thOf_set ht]
    split
    · rename_i e; subst e; rw [h rfl]
    · rfl
theorem pX_thr {t : Nat} (ht : t < s.ths.length) {x : Th} (hp : x.pc = (thOf s t).pc) : pX Q mb v (setTh s t x) .thr = pX Q mb v s .thr := by
  show rows3 (setTh s t x).ths.length (pthC Q v (setTh s t x)) = rows3 s.ths.length (pthC Q v s)
  rw [ths_set]
  refine rows3_congr fun a b _ => ?_
  unfold pthC
  rw [thOf_set ht]
  by_cases h1 : a = t
  · subst h1; rw [if_pos rfl, hp]
  · rw [if_neg h1]
theorem QSt.setPc (h : QSt w B Q sb mb v s) {tb t : Nat} (e : (v .thr).ownBlock = some tb) (ht : t < s.ths.length) (k : Nat) : QSt (w.setCell ⟨tb, t * 3 + 1, none⟩ (.int .i64 k)) B Q sb mb v (setTh s t { thOf s t with pc := k }) := by
  refine ⟨h.fam.put (r := .thr) e (t * 3 + 1) _ (pN_setTh ht rfl) ?_ (fun q hq => pX_setTh ht q hq (fun _ => rfl)), h.st, h.mem⟩
  show rows3 (setTh s t _).ths.length (pthC Q v (setTh s t _)) = (rows3 s.ths.length (pthC Q v s)).set (t * 3 + 1) _
  rw [ths_set]
  refine rows3_set (by omega) ?_ ?_
  · simp [pthC, thOf_set ht]
  · intro a b _ hab
    simp only [pthC, thOf_set ht]
    by_cases h1 : a = t
    · subst h1
      have : b ≠ 1 := fun e => hab ⟨rfl, e⟩
      simp [this]
    · simp [h1]
theorem QSt.setReg (h : QSt w B Q sb mb v s) {rb t : Nat} (e : (v (.regs t)).ownBlock = some rb) (ht : t < s.ths.length) (r : Nat) (x : Int) : QSt (w.setCell ⟨rb, r, none⟩ (.int .i64 x)) B Q sb mb v (setR s t r x) := by
  refine ⟨h.fam.put (r := .regs t) e r _ (pN_setTh ht (by simp)) ?_ (fun q hq => ?_), h.st, h.mem⟩
  · show intsV (thOf (setR s t r x) t).regs = (intsV (thOf s t).regs).set r _
    rw [setR, thOf_set ht, if_pos rfl, intsV_set]
    simp
  · by_cases h1 : q = .thr
    · subst h1; exact pX_thr ht rfl
    · exact pX_setTh ht q h1 (fun e => absurd e hq)
theorem QSt.setWord (h : QSt w B Q sb mb v s) {rb : Nat} (e : (v .words).ownBlock = some rb) (r : Nat) (x : Int) : QSt (w.setCell ⟨rb, r, none⟩ (.int .i64 x)) B Q sb mb v { s with words := s.words.set r x } := by
  refine ⟨h.fam.put (r := .words) e r _ (fun q => ?_) ?_ (fun q hq => ?_), h.st, h.mem⟩
  · cases q <;> first | rfl | simp [pN]
  · exact intsV_set _ _ _
  · cases q <;> first | rfl | exact absurd rfl hq
theorem QSt.setOwn (h : QSt w B Q sb mb v s) {rb : Nat} (e : (v .own).ownBlock = some rb) (r : Nat) (x : Int) : QSt (w.setCell ⟨rb, r, none⟩ (.int .i64 x)) B Q sb mb v { s with own := s.own.set r x } := by
  refine ⟨h.fam.put (r := .own) e r _ (fun q => ?_) ?_ (fun q hq => ?_), h.st, h.mem⟩
  · cases q <;> first | rfl | simp [pN]
  · exact intsV_set _ _ _
  · cases q <;> first | rfl | exact absurd rfl hq
/-- The program does not say in its state that it falls. -/
theorem QSt.fall (h : QSt w B Q sb mb v s) : QSt w B Q sb mb v (fallX s) := ⟨h.fam.same (fun r => by cases r <;> rfl) (fun r => by cases r <;> rfl), h.st, h.mem⟩
theorem QSt.print (h : QSt w B Q sb mb v s) {g c H : Nat} {a b : Int} (hown : w1.ownsRow B 3 1 (.slice (some ⟨g, 0, none⟩) (s.prints.length + 2) c) (s.prints.length + 2) (intsV s.prints ++ [.int .i64 a, .int .i64 b])) (hgrow : w.grownBy w1 (v .prints).ownBlock) (hat : (v .prints).ownBlock = some g ∨ g = H) (hH : w.heap.size ≤ H) :
    QSt (w1.setCell ⟨sb, 2, none⟩ (.slice (some ⟨g, 0, none⟩) (s.prints.length + 2) c)) B Q sb mb (upd v .prints (.slice (some ⟨g, 0, none⟩) (s.prints.length + 2) c)) { s with prints := s.prints ++ [a, b] } := by
  obtain ⟨x, hx⟩ : ∃ x : Value, x = .slice (some ⟨g, 0, none⟩) (s.prints.length + 2) c := ⟨_, rfl⟩
  have h1 := h.fam.grow (r := .prints) (n1 := pN { s with prints := s.prints ++ [a, b] }) (xs1 := fun q => if q = .prints then intsV s.prints ++ [.int .i64 a, .int .i64 b] else pX Q mb v s q) hown hgrow hat hH (by simp [pN]) (fun q hq => by cases q <;> first | rfl | exact absurd rfl hq) (if_pos rfl) (fun q hq => if_neg hq)
  rw [← hx] at h1 ⊢
  refine ⟨h1.put (r := .st) (by rw [upd_ne _ _ (by decide)]; exact h.bst) 2 _ (fun q => rfl) ?_ (fun q hq => ?_), by rw [upd_ne _ _ (by decide)]; exact h.st, by rw [upd_ne _ _ (by decide)]; exact h.mem⟩
  · rw [if_neg (by decide)]
    simp only [pX, upd_self]
    rw [upd_ne _ _ (by decide)]
    rfl
  · cases q with
    | st => exact absurd rfl hq
    | prints => rw [if_pos rfl]; simp [pX, intsV]
    | thr =>
      rw [if_neg (by decide)]
      refine rows3_congr fun a b _ => ?_
      unfold pthC
      rw [upd_ne _ _ (by simp)]
      rfl
    | mem =>
      rw [if_neg (by decide)]
      simp only [pX]
      rw [upd_ne _ _ (by decide), upd_ne _ _ (by decide)]
    | words => rw [if_neg (by decide)]; rfl
    | own => rw [if_neg (by decide)]; rfl
    | regs u => rw [if_neg (by simp)]; rfl
end

/-! The memory's methods, as they are called. -/

end Go.Proofs.Ytjheojfpnfkloaa
