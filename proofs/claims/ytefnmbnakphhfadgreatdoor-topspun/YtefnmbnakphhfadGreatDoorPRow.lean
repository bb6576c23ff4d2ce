/-
  The state of a run of the program as it lies in memory, with all its rows; what a store and an append make of it.
  What the program asks of a memory, whichever it is: its methods, as they are called, and what they do.
-/
import Derived.Test.YtefnmbnakphhfadGreatDoorDSt
namespace Go.Proofs.YtefnmbnakphhfadGreatDoor
section
open Go.RowKit

/-- The rows of the program's state. -/
inductive Rp where
  | st
  | thr
  | prints
  | regs (t : Nat)
  | mem
  | words
  | own
  | box
  | bufs
  | buf (t : Nat)
deriving DecidableEq

/-- A kind of memory: is it one with buffers; how runs in it are; its own type, those of its box, of a list of stores and of a store; its methods. -/
structure Mk where
  bf : Bool
  mode : Int
  tid : TypeId
  bty : TypeId
  lty : TypeId
  sty : TypeId
  able : Nat
  load : Nat
  store : Nat
  unlock : Nat
  waiting : Nat
  finish : Nat
/-- A program's code as values, the kind of its memory, where the box with buffers lies, how many buffers there are. -/
structure Cd where
  A : Nat → Option Addr
  L : Nat → Nat
  C : Nat → Nat
  K : Mk
  bb : Nat
  nt : Nat
/-- Where the memory's own box lies. -/
def Cd.top (Q : Cd) (mb : Nat) : Nat := if Q.K.bf then Q.bb else mb

def pTy (K : Mk) : Rp → TypeId
  | .st => 92
  | .thr => 122
  | .mem => 113
  | .box => K.bty
  | .bufs => K.lty
  | .buf _ => K.sty
  | _ => 3
def pSz : Rp → Nat
  | .st => 3
  | .thr => 3
  | .mem => 2
  | .box => 2
  | .buf _ => 3
  | _ => 1
def pN (Q : Cd) (s : Sx) : Rp → Nat
  | .st => 1
  | .thr => s.ths.length
  | .prints => s.prints.length
  | .regs t => (thOf s t).regs.length
  | .mem => 1
  | .words => s.words.length
  | .own => s.own.length
  | .box => if Q.K.bf then 1 else 0
  | .bufs => if Q.K.bf then Q.nt else 0
  | .buf t => if Q.K.bf then (thOf s t).wait.length else 0
def pthC (Q : Cd) (v : Rp → Value) (s : Sx) (t j : Nat) : Value := if j = 0 then .slice (Q.A t) (Q.L t) (Q.C t) else if j = 1 then .int .i64 (thOf s t).pc else v (.regs t)
def pX (Q : Cd) (mb : Nat) (v : Rp → Value) (s : Sx) : Rp → List Value
  | .st => [.iface Q.K.tid (.pointer (some ⟨Q.top mb, 0, none⟩)), v .thr, v .prints]
  | .thr => rows3 s.ths.length (pthC Q v s)
  | .prints => intsV s.prints
  | .regs t => intsV (thOf s t).regs
  | .mem => [v .words, v .own]
  | .words => intsV s.words
  | .own => intsV s.own
  | .box => if Q.K.bf then [.pointer (some ⟨mb, 0, none⟩), v .bufs] else []
  | .bufs => if Q.K.bf then (List.range Q.nt).map fun t => v (.buf t) else []
  | .buf t => if Q.K.bf then waitV (thOf s t).wait else []
structure QSt (w : World) (B : Nat) (Q : Cd) (sb mb : Nat) (v : Rp → Value) (s : Sx) : Prop where
  fam : Fam w B (pTy Q.K) pSz v (pN Q s) (pX Q mb v s)
  st : v .st = boxV sb
  mem : v .mem = boxV mb
  box : Q.K.bf = true → v .box = boxV Q.bb

section
variable {w w1 : World} {B : Nat} {Q : Cd} {sb mb : Nat} {v : Rp → Value} {s : Sx}
theorem QSt.below (h : QSt w B Q sb mb v s) (hb : Below w.heap.size w w1) : QSt w1 B Q sb mb v s := ⟨h.fam.below hb, h.st, h.mem, h.box⟩
theorem QSt.same (h : QSt w B Q sb mb v s) (e : w1.heap = w.heap) : QSt w1 B Q sb mb v s := ⟨⟨fun r => fam_keeps (h.fam.own r) (fun g _ => by rw [e]), h.fam.apart⟩, h.st, h.mem, h.box⟩
theorem QSt.alloc (h : QSt w B Q sb mb v s) (o : Obj) : QSt (w.alloc o) B Q sb mb v s := h.below ((Below.refl _ _).alloc (Nat.le_refl _) _)
theorem QSt.bst (h : QSt w B Q sb mb v s) : (v .st).ownBlock = some sb := by rw [h.st]; rfl
theorem QSt.bmem (h : QSt w B Q sb mb v s) : (v .mem).ownBlock = some mb := by rw [h.mem]; rfl
theorem QSt.c0 (h : QSt w B Q sb mb v s) : w.cell? ⟨sb, 0, none⟩ = some (.iface Q.K.tid (.pointer (some ⟨Q.top mb, 0, none⟩))) := h.fam.cell h.bst rfl
theorem QSt.c1 (h : QSt w B Q sb mb v s) : w.cell? ⟨sb, 1, none⟩ = some (v .thr) := h.fam.cell h.bst rfl
theorem QSt.c2 (h : QSt w B Q sb mb v s) : w.cell? ⟨sb, 2, none⟩ = some (v .prints) := h.fam.cell h.bst rfl
theorem QSt.m0 (h : QSt w B Q sb mb v s) : w.cell? ⟨mb, 0, none⟩ = some (v .words) := h.fam.cell h.bmem rfl
theorem QSt.m1 (h : QSt w B Q sb mb v s) : w.cell? ⟨mb, 1, none⟩ = some (v .own) := h.fam.cell h.bmem rfl
theorem QSt.form (h : QSt w B Q sb mb v s) (r : Rp) : ∃ a c, v r = .slice a (pN Q s r) c := fam_form (h.fam.own r)
theorem QSt.blk (h : QSt w B Q sb mb v s) (r : Rp) (hn : 0 < pN Q s r) : ∃ g c, v r = .slice (some ⟨g, 0, none⟩) (pN Q s r) c ∧ (v r).ownBlock = some g ∧ g < w.heap.size := by
  obtain ⟨g, c, h1, h2, _, h4⟩ := fam_block (h.fam.own r) hn
  exact ⟨g, c, h1, h2, h4⟩
theorem QSt.code (h : QSt w B Q sb mb v s) {tb t : Nat} (e : (v .thr).ownBlock = some tb) (ht : t < s.ths.length) : w.cell? ⟨tb, t * 3, none⟩ = some (.slice (Q.A t) (Q.L t) (Q.C t)) := h.fam.cell e (rows3_get (j := 0) ht (by omega))
theorem QSt.pc (h : QSt w B Q sb mb v s) {tb t : Nat} (e : (v .thr).ownBlock = some tb) (ht : t < s.ths.length) : w.cell? ⟨tb, t * 3 + 1, none⟩ = some (.int .i64 (thOf s t).pc) := h.fam.cell e (rows3_get (j := 1) ht (by omega))
theorem QSt.regs (h : QSt w B Q sb mb v s) {tb t : Nat} (e : (v .thr).ownBlock = some tb) (ht : t < s.ths.length) : w.cell? ⟨tb, t * 3 + 2, none⟩ = some (v (.regs t)) := h.fam.cell e (rows3_get (j := 2) ht (by omega))
theorem QSt.reg (h : QSt w B Q sb mb v s) {rb t r : Nat} (e : (v (.regs t)).ownBlock = some rb) (hr : r < (thOf s t).regs.length) : w.cell? ⟨rb, r, none⟩ = some (.int .i64 (getR s t r)) := by
  refine (h.fam.cell e (intsV_at hr)).trans ?_
  simp [getR]
theorem QSt.word (h : QSt w B Q sb mb v s) {rb r : Nat} (e : (v .words).ownBlock = some rb) (hr : r < s.words.length) : w.cell? ⟨rb, r, none⟩ = some (.int .i64 (s.words.getD r 0)) := h.fam.cell e (intsV_at hr)
theorem QSt.owner (h : QSt w B Q sb mb v s) {rb r : Nat} (e : (v .own).ownBlock = some rb) (hr : r < s.own.length) : w.cell? ⟨rb, r, none⟩ = some (.int .i64 (s.own.getD r 0)) := h.fam.cell e (intsV_at hr)

theorem pN_setTh {t : Nat} (ht : t < s.ths.length) {x : Th} (hr : x.regs.length = (thOf s t).regs.length) (hw : x.wait.length = (thOf s t).wait.length) : ∀ q, pN Q (setTh s t x) q = pN Q s q
  | .st => rfl
  | .thr => ths_set _ _ _
  | .words => rfl
  | .own => rfl
  | .prints => rfl
  | .mem => rfl
  | .regs u => by
    show (thOf (setTh s t x) u).regs.length = (thOf s u).regs.length
    rw [thOf_set ht]
    split
    · rename_i h; rw [h]; exact hr
    · rfl
  | .box => rfl
  | .bufs => rfl
  | .buf u => by
    show (if Q.K.bf then (thOf (setTh s t x) u).wait.length else 0) = if Q.K.bf then (thOf s u).wait.length else 0
    rw [thOf_set ht]
    by_cases h : u = t
    · rw [if_pos h, h, hw]
    · rw [if_neg h]
theorem pX_setTh {t : Nat} (ht : t < s.ths.length) {x : Th} : (∀ q, q ≠ .thr → (q = .regs t → x.regs = (thOf s t).regs) → (q = .buf t → x.wait = (thOf s t).wait) → pX Q mb v (setTh s t x) q = pX Q mb v s q)
  | .st, _, _, _ => rfl
  | .thr, h, _, _ => absurd rfl h
  | .words, _, _, _ => rfl
  | .own, _, _, _ => rfl
  | .prints, _, _, _ => rfl
  | .mem, _, _, _ => rfl
  | .box, _, _, _ => rfl
  | .bufs, _, _, _ => rfl
  | .buf u, _, _, h => by
    show (if Q.K.bf then waitV (thOf (setTh s t x) u).wait else []) = if Q.K.bf then waitV (thOf s u).wait else []
    rw [thOf_set ht]
    by_cases e : u = t
    · subst e; rw [if_pos rfl, h rfl]
    · rw [if_neg e]
  | .regs u, _, h, _ => by
    show intsV (thOf (setTh s t x) u).regs = intsV (thOf s u).regs
    rw [thOf_set ht]
    split
    · rename_i e; subst e; rw [h rfl]
    · rfl
theorem pX_thr {t : Nat} (ht : t < s.ths.length) {x : Th} (hp : x.pc = (thOf s t).pc) : pX Q mb v (setTh s t x) .thr = pX Q mb v s .thr := by
  show rows3 (setTh s t x).ths.length (pthC Q v (setTh s t x)) = rows3 s.ths.length (pthC Q v s)
  rw [ths_set]
  refine rows3_congr fun a b _ => ?_
  unfold pthC
  rw [thOf_set ht]
  by_cases h1 : a = t
  · subst h1; rw [if_pos rfl, hp]
  · rw [if_neg h1]
theorem QSt.setPc (h : QSt w B Q sb mb v s) {tb t : Nat} (e : (v .thr).ownBlock = some tb) (ht : t < s.ths.length) (k : Nat) : QSt (w.setCell ⟨tb, t * 3 + 1, none⟩ (.int .i64 k)) B Q sb mb v (setTh s t { thOf s t with pc := k }) := by
  refine ⟨h.fam.put (r := .thr) e (t * 3 + 1) _ (pN_setTh ht rfl rfl) ?_ (fun q hq => pX_setTh ht q hq (fun _ => rfl) (fun _ => rfl)), h.st, h.mem, h.box⟩
  show rows3 (setTh s t _).ths.length (pthC Q v (setTh s t _)) = (rows3 s.ths.length (pthC Q v s)).set (t * 3 + 1) _
  rw [ths_set]
  refine rows3_set (by omega) ?_ ?_
  · simp [pthC, thOf_set ht]
  · intro a b _ hab
    simp only [pthC, thOf_set ht]
    by_cases h1 : a = t
    · subst h1
      have : b ≠ 1 := fun e => hab ⟨rfl, e⟩
      simp [this]
    · simp [h1]
theorem QSt.setReg (h : QSt w B Q sb mb v s) {rb t : Nat} (e : (v (.regs t)).ownBlock = some rb) (ht : t < s.ths.length) (r : Nat) (x : Int) : QSt (w.setCell ⟨rb, r, none⟩ (.int .i64 x)) B Q sb mb v (setR s t r x) := by
  refine ⟨h.fam.put (r := .regs t) e r _ (pN_setTh ht (by simp) rfl) ?_ (fun q hq => ?_), h.st, h.mem, h.box⟩
  · show intsV (thOf (setR s t r x) t).regs = (intsV (thOf s t).regs).set r _
    rw [setR, thOf_set ht, if_pos rfl, intsV_set]
    simp
  · by_cases h1 : q = .thr
    · subst h1; exact pX_thr ht rfl
    · exact pX_setTh ht q h1 (fun e => absurd e hq) (fun _ => rfl)
theorem QSt.setWord (h : QSt w B Q sb mb v s) {rb : Nat} (e : (v .words).ownBlock = some rb) (r : Nat) (x : Int) : QSt (w.setCell ⟨rb, r, none⟩ (.int .i64 x)) B Q sb mb v { s with words := s.words.set r x } := by
  refine ⟨h.fam.put (r := .words) e r _ (fun q => ?_) ?_ (fun q hq => ?_), h.st, h.mem, h.box⟩
  · cases q <;> first | rfl | simp [pN]
  · exact intsV_set _ _ _
  · cases q <;> first | rfl | exact absurd rfl hq
theorem QSt.setOwn (h : QSt w B Q sb mb v s) {rb : Nat} (e : (v .own).ownBlock = some rb) (r : Nat) (x : Int) : QSt (w.setCell ⟨rb, r, none⟩ (.int .i64 x)) B Q sb mb v { s with own := s.own.set r x } := by
  refine ⟨h.fam.put (r := .own) e r _ (fun q => ?_) ?_ (fun q hq => ?_), h.st, h.mem, h.box⟩
  · cases q <;> first | rfl | simp [pN]
  · exact intsV_set _ _ _
  · cases q <;> first | rfl | exact absurd rfl hq
/-- The program does not say in its state that it falls. -/
theorem QSt.fall (h : QSt w B Q sb mb v s) : QSt w B Q sb mb v (fallX s) := ⟨h.fam.same (fun r => by cases r <;> rfl) (fun r => by cases r <;> rfl), h.st, h.mem, h.box⟩
theorem QSt.print (h : QSt w B Q sb mb v s) {g c H : Nat} {a b : Int} (hown : w1.ownsRow B 3 1 (.slice (some ⟨g, 0, none⟩) (s.prints.length + 2) c) (s.prints.length + 2) (intsV s.prints ++ [.int .i64 a, .int .i64 b])) (hgrow : w.grownBy w1 (v .prints).ownBlock) (hat : (v .prints).ownBlock = some g ∨ g = H) (hH : w.heap.size ≤ H) :
    QSt (w1.setCell ⟨sb, 2, none⟩ (.slice (some ⟨g, 0, none⟩) (s.prints.length + 2) c)) B Q sb mb (upd v .prints (.slice (some ⟨g, 0, none⟩) (s.prints.length + 2) c)) { s with prints := s.prints ++ [a, b] } := by
  obtain ⟨x, hx⟩ : ∃ x : Value, x = .slice (some ⟨g, 0, none⟩) (s.prints.length + 2) c := ⟨_, rfl⟩
  have h1 := h.fam.grow (r := .prints) (n1 := pN Q { s with prints := s.prints ++ [a, b] }) (xs1 := fun q => if q = .prints then intsV s.prints ++ [.int .i64 a, .int .i64 b] else pX Q mb v s q) hown hgrow hat hH (by simp [pN]) (fun q hq => by cases q <;> first | rfl | exact absurd rfl hq) (if_pos rfl) (fun q hq => if_neg hq)
  rw [← hx] at h1 ⊢
  refine ⟨h1.put (r := .st) (by rw [upd_ne _ _ (by decide)]; exact h.bst) 2 _ (fun q => rfl) ?_ (fun q hq => ?_), by rw [upd_ne _ _ (by decide)]; exact h.st, by rw [upd_ne _ _ (by decide)]; exact h.mem, fun hb => by rw [upd_ne _ _ (by decide)]; exact h.box hb⟩
  · rw [if_neg (by decide)]
    simp only [pX, upd_self]
    rw [upd_ne _ _ (by decide)]
    rfl
  · cases q with
    | st => exact absurd rfl hq
    | prints => rw [if_pos rfl]; simp [pX, intsV]
    | thr =>
      rw [if_neg (by decide)]
      refine rows3_congr fun a b _ => ?_
      unfold pthC
      rw [upd_ne _ _ (by simp)]
      rfl
    | mem =>
      rw [if_neg (by decide)]
      simp only [pX]
      rw [upd_ne _ _ (by decide), upd_ne _ _ (by decide)]
    | words => rw [if_neg (by decide)]; rfl
    | own => rw [if_neg (by decide)]; rfl
    | regs u => rw [if_neg (by simp)]; rfl
    | box =>
      rw [if_neg (by decide)]
      simp only [pX]
      rw [upd_ne _ _ (by decide)]
    | bufs =>
      rw [if_neg (by decide)]
      simp only [pX]
      congr 1
    | buf u => rw [if_neg (by simp)]; rfl
end

/-! The memory's methods, as they are called. -/
end

section
open Go.RowKit

/-- What a step's call must come to. -/
def StepQ (B : Nat) (Q : Cd) (sb mb : Nat) (v : Rp → Value) (w : World) (s' : Sx) (e : Ending) (w' : World) : Prop := e = .returned (.bool (!s'.fell)) ∧ ∃ v', QSt w' B Q sb mb v' s' ∧ Moved w w' v v'
/-- What a change of the memory must come to. -/
def ChgQ (B : Nat) (Q : Cd) (sb mb : Nat) (v : Rp → Value) (w : World) (s' : Sx) (r : Value) (e : Ending) (w' : World) : Prop := e = .returned r ∧ ∃ v', QSt w' B Q sb mb v' s' ∧ Moved w w' v v' ∧ v' .st = v .st ∧ v' .thr = v .thr ∧ v' .prints = v .prints ∧ ∀ u, v' (.regs u) = v (.regs u)
/-- What can be known of a thread where a memory is asked. -/
structure MPre (w : World) (B : Nat) (Q : Cd) (sb mb : Nat) (v : Rp → Value) (s : Sx) (t : Nat) : Prop where
  hs : QSt w B Q sb mb v s
  hB : B ≤ w.heap.size
  hn : Q.nt = s.ths.length
  h4 : s.ths.length ≤ 4
  ht : t < s.ths.length
  hm : s.words.length ≤ 64
  hl : s.own.length ≤ 4
  hw : (thOf s t).wait.length ≤ 3
  hok : ∀ x, x ∈ (thOf s t).wait → (0 ≤ x.wh ∧ x.wh < (if x.lk then s.own.length else s.words.length : Nat)) ∧ (x.lk = true → x.what = 0)
  bare : Q.K.bf = false → (thOf s t).wait = []
theorem MPre.same {w W : World} {B : Nat} {Q : Cd} {sb mb : Nat} {v : Rp → Value} {s : Sx} {t : Nat} (h : MPre w B Q sb mb v s t) (e : W.heap = w.heap) : MPre W B Q sb mb v s t := ⟨h.hs.same e, by rw [e]; exact h.hB, h.hn, h.h4, h.ht, h.hm, h.hl, h.hw, h.hok, h.bare⟩
theorem MPre.below {w W : World} {B : Nat} {Q : Cd} {sb mb : Nat} {v : Rp → Value} {s : Sx} {t : Nat} (h : MPre w B Q sb mb v s t) (e : Below w.heap.size w W) : MPre W B Q sb mb v s t := ⟨h.hs.below e, Nat.le_trans h.hB e.size, h.hn, h.h4, h.ht, h.hm, h.hl, h.hw, h.hok, h.bare⟩
/-- The places of what waits and can be done. -/
def placesW (mode : Int) (l : List Wt) : List Nat := (List.range l.length).filter fun k => mayW mode l k

structure MLaw (K : Mk) : Prop where
  notTr : K.bty ≠ 325 ∧ K.lty ≠ 325 ∧ K.sty ≠ 325
  mode0 : K.bf = false → K.mode = 0
  mode1 : K.bf = true → 0 < K.mode
  mHas : ∀ (w : World) (B : Nat) (Q : Cd) (sb mb : Nat) (v : Rp → Value) (s : Sx), Q.K = K → QSt w B Q sb mb v s → (method 325 K.tid (.pointer (some ⟨Q.top mb, 0, none⟩)) "Has").run Tryz.prog w = .ok (138, .pointer (some ⟨mb, 0, none⟩)) w
  mAble : ∀ (a : Addr) (w : World), (method 325 K.tid (.pointer (some a)) "Able").run Tryz.prog w = .ok (K.able, .pointer (some a)) w
  cAble : ∀ (xs : Array Value) (w : World), (callFunc K.able xs).run Tryz.prog w = .ok (.enter K.able xs) w
  mLoad : ∀ (a : Addr) (w : World), (method 325 K.tid (.pointer (some a)) "Load").run Tryz.prog w = .ok (K.load, .pointer (some a)) w
  cLoad : ∀ (xs : Array Value) (w : World), (callFunc K.load xs).run Tryz.prog w = .ok (.enter K.load xs) w
  mStore : ∀ (a : Addr) (w : World), (method 325 K.tid (.pointer (some a)) "Store").run Tryz.prog w = .ok (K.store, .pointer (some a)) w
  cStore : ∀ (xs : Array Value) (w : World), (callFunc K.store xs).run Tryz.prog w = .ok (.enter K.store xs) w
  mSwap : ∀ (w : World) (B : Nat) (Q : Cd) (sb mb : Nat) (v : Rp → Value) (s : Sx), Q.K = K → QSt w B Q sb mb v s → (method 325 K.tid (.pointer (some ⟨Q.top mb, 0, none⟩)) "Swap").run Tryz.prog w = .ok (142, .pointer (some ⟨mb, 0, none⟩)) w
  mLock : ∀ (w : World) (B : Nat) (Q : Cd) (sb mb : Nat) (v : Rp → Value) (s : Sx), Q.K = K → QSt w B Q sb mb v s → (method 325 K.tid (.pointer (some ⟨Q.top mb, 0, none⟩)) "Lock").run Tryz.prog w = .ok (140, .pointer (some ⟨mb, 0, none⟩)) w
  mUnlock : ∀ (a : Addr) (w : World), (method 325 K.tid (.pointer (some a)) "Unlock").run Tryz.prog w = .ok (K.unlock, .pointer (some a)) w
  cUnlock : ∀ (xs : Array Value) (w : World), (callFunc K.unlock xs).run Tryz.prog w = .ok (.enter K.unlock xs) w
  mWaiting : ∀ (a : Addr) (w : World), (method 325 K.tid (.pointer (some a)) "Waiting").run Tryz.prog w = .ok (K.waiting, .pointer (some a)) w
  cWaiting : ∀ (xs : Array Value) (w : World), (callFunc K.waiting xs).run Tryz.prog w = .ok (.enter K.waiting xs) w
  mFinish : ∀ (a : Addr) (w : World), (method 325 K.tid (.pointer (some a)) "Finish").run Tryz.prog w = .ok (K.finish, .pointer (some a)) w
  cFinish : ∀ (xs : Array Value) (w : World), (callFunc K.finish xs).run Tryz.prog w = .ok (.enter K.finish xs) w
  mWords : ∀ (w : World) (B : Nat) (Q : Cd) (sb mb : Nat) (v : Rp → Value) (s : Sx), Q.K = K → QSt w B Q sb mb v s → (method 325 K.tid (.pointer (some ⟨Q.top mb, 0, none⟩)) "Words").run Tryz.prog w = .ok (146, .pointer (some ⟨mb, 0, none⟩)) w
  able : ∀ (w : World) (B : Nat) (Q : Cd) (sb mb : Nat) (v : Rp → Value) (s : Sx) (t : Nat) (op a b c : Int), Q.K = K → MPre w B Q sb mb v s t → (op = 17 → 0 ≤ a ∧ a < (s.own.length : Int)) →
    Calls Tryz.prog K.able #[.pointer (some ⟨Q.top mb, 0, none⟩), .int .i64 t, ints4 op a b c] w fun e w' => e = .returned (.bool (ableO s.own (thOf s t).wait.length op a)) ∧ Below w.heap.size w w'
  load : ∀ (w : World) (B : Nat) (Q : Cd) (sb mb : Nat) (v : Rp → Value) (s : Sx) (t x : Nat), Q.K = K → MPre w B Q sb mb v s t → x < s.words.length →
    Calls Tryz.prog K.load #[.pointer (some ⟨Q.top mb, 0, none⟩), .int .i64 t, .int .i64 x] w fun e w' => e = .returned (.int .i64 (findsW s t x)) ∧ Below w.heap.size w w'
  store : ∀ (w : World) (B : Nat) (Q : Cd) (sb mb : Nat) (v : Rp → Value) (s : Sx) (t x : Nat) (y : Int), Q.K = K → MPre w B Q sb mb v s t → x < s.words.length → (thOf s t).wait.length < 3 →
    Calls Tryz.prog K.store #[.pointer (some ⟨Q.top mb, 0, none⟩), .int .i64 t, .int .i64 x, .int .i64 y] w (ChgQ B Q sb mb v w (storeW K.mode s t ⟨false, x, y⟩) (.tuple #[]))
  unlockY : ∀ (w : World) (B : Nat) (Q : Cd) (sb mb : Nat) (v : Rp → Value) (s : Sx) (t x : Nat), Q.K = K → MPre w B Q sb mb v s t → x < s.own.length → (thOf s t).wait.length < 3 → s.own.getD x 0 = t → ((thOf s t).wait.any fun z => z.lk && decide (z.wh = x)) = false →
    Calls Tryz.prog K.unlock #[.pointer (some ⟨Q.top mb, 0, none⟩), .int .i64 t, .int .i64 x] w (ChgQ B Q sb mb v w (storeW K.mode s t ⟨true, x, 0⟩) (.bool true))
  unlockN : ∀ (w : World) (B : Nat) (Q : Cd) (sb mb : Nat) (v : Rp → Value) (s : Sx) (t x : Nat), Q.K = K → MPre w B Q sb mb v s t → x < s.own.length → (¬ s.own.getD x 0 = t ∨ ((thOf s t).wait.any fun z => z.lk && decide (z.wh = x)) = true) →
    Calls Tryz.prog K.unlock #[.pointer (some ⟨Q.top mb, 0, none⟩), .int .i64 t, .int .i64 x] w fun e w' => e = .returned (.bool false) ∧ Below w.heap.size w w'
  finish : ∀ (w : World) (B : Nat) (Q : Cd) (sb mb : Nat) (v : Rp → Value) (s : Sx) (X : Nat → Nat → Nat → Int) (t k : Nat), Q.K = K → MPre w B Q sb mb v s t → (∀ x, x ∈ (thOf s t).wait → x.lk = true → s.own.getD x.wh.toNat 0 = (t : Int)) → k < (thOf s t).wait.length → mayW K.mode (thOf s t).wait k = true →
    Calls Tryz.prog K.finish #[.pointer (some ⟨Q.top mb, 0, none⟩), .int .i64 t, .int .i64 k] w (ChgQ B Q sb mb v w (doX X K.mode s (8 * t + k + 1)) (.tuple #[]))
  waiting : ∀ (w : World) (B : Nat) (Q : Cd) (sb mb : Nat) (v : Rp → Value) (s : Sx) (t fid : Nat) (caps : Array Value) (I : Nat → World → Prop), Q.K = K → (∀ (xs : Array Value) (w : World), (callFunc fid xs).run Tryz.prog w = .ok (.enter fid xs) w) → (∀ j W, I j W → MPre W B Q sb mb v s t) → (∀ j W k, I j W → I j (W.drewN k)) → I 0 w →
    (∀ j W, j < (placesW K.mode (thOf s t).wait).length → I j W → Calls Tryz.prog fid (#[.int .i64 ((placesW K.mode (thOf s t).wait).getD j 0 : Nat)] ++ caps) W fun e W' => e = .returned (.tuple #[]) ∧ I (j + 1) W') →
    Calls Tryz.prog K.waiting #[.pointer (some ⟨Q.top mb, 0, none⟩), .int .i64 t, .func (.func fid) #[] caps] w fun e w' => e = .returned (.tuple #[]) ∧ I (placesW K.mode (thOf s t).wait).length w'
end

end Go.Proofs.YtefnmbnakphhfadGreatDoor
