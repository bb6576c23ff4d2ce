/-
  What the document says of runs, as plain functions: what waits, the state of a run, what can be picked, what a move does, a run's trace.
  The state of a run of the document, as it lies in memory; a thread's next order.
  The state of a run of the document as it lies in memory, with all its rows; what a store and an append make of it.
  Outcomes and their order; all that can be come to, and what is told of it: plain functions.
-/
import Derived.Test.YtocfocjnnjdcgaaDoorBase
import Derived.WalkKit
import Derived.WalkSpells
import Derived.WalkLawsBesides
import Derived.Test.YtocfocjnnjdcgaaDoorOrder
import Derived.Test.YtocfocjnnjdcgaaDoorFam
namespace Go.Proofs.YtocfocjnnjdcgaaDoor
section
open Go.RowKit

/-- What waits: a store into a word, or that a lock becomes free. -/
structure Wt where
  lk : Bool
  wh : Int
  what : Int
deriving DecidableEq, Inhabited
/-- A thread of a run. -/
structure Th where
  pc : Nat
  regs : List Int
  wait : List Wt
deriving DecidableEq, Inhabited
/-- The state of a run. -/
structure Sx where
  ths : List Th
  words : List Int
  own : List Int
  prints : List Int
  fell : Bool
deriving DecidableEq, Inhabited

section
variable (L : Nat → Nat) (X : Nat → Nat → Nat → Int)

def thOf (s : Sx) (t : Nat) : Th := s.ths.getD t default
def endedT (s : Sx) (t : Nat) : Bool := decide (L t ≤ (thOf s t).pc)
def opT (s : Sx) (t q : Nat) : Int := X t (thOf s t).pc q
/-- Is a thread able to do its next order? -/
def ableT (s : Sx) (t : Nat) : Bool :=
  if endedT L s t then false
  else
    let k := (thOf s t).wait.length
    let op := opT X s t 0
    if op = 9 ∨ op = 11 ∨ op = 18 then decide (k < 3)
    else if op = 12 ∨ op = 13 then decide (k = 0)
    else if op = 17 then decide (k = 0) && decide (s.own.getD (opT X s t 1).toNat 0 = -1)
    else true
/-- May the k-th one that waits be done? -/
def mayW (mode : Int) (l : List Wt) (k : Nat) : Bool :=
  if k = 0 then true
  else if mode = 1 ∨ (l.getD k default).lk = true then false
  else (l.take k).all fun x => !(x.lk || decide (x.wh = (l.getD k default).wh))
/-- What can be picked. -/
def movesT (mode : Int) (s : Sx) (t : Nat) : List Int :=
  (if ableT L X s t then [8 * (t : Int)] else []) ++ ((List.range (thOf s t).wait.length).filter (fun k => mayW mode (thOf s t).wait k)).map fun (k : Nat) => 8 * (t : Int) + (k : Int) + 1
def movesX (mode : Int) (s : Sx) : List Int := (List.range s.ths.length).flatMap fun t => movesT L X mode s t
def endedX (s : Sx) : Bool := (List.range s.ths.length).all fun t => endedT L s t && (thOf s t).wait.isEmpty
def setTh (s : Sx) (t : Nat) (x : Th) : Sx := { s with ths := s.ths.set t x }
/-- One that waited is done. -/
def doneW (s : Sx) (x : Wt) : Sx := if x.lk then { s with own := s.own.set x.wh.toNat (-1) } else { s with words := s.words.set x.wh.toNat x.what }
def storeW (mode : Int) (s : Sx) (t : Nat) (x : Wt) : Sx :=
  if 0 < mode then setTh s t { thOf s t with wait := (thOf s t).wait ++ [x] } else doneW s x
/-- What a thread finds in a word. -/
def findsW (s : Sx) (t : Nat) (wd : Int) : Int :=
  match (thOf s t).wait.reverse.find? fun x => !x.lk && decide (x.wh = wd) with
  | some x => x.what
  | none => s.words.getD wd.toNat 0
def setR (s : Sx) (t : Nat) (r v : Int) : Sx := setTh s t { thOf s t with regs := (thOf s t).regs.set r.toNat v }
def getR (s : Sx) (t : Nat) (r : Int) : Int := (thOf s t).regs.getD r.toNat 0
def bitI (b : Bool) : Int := if b then 1 else 0
def fallX (s : Sx) : Sx := { s with fell := true }
/-- A thread's order op, with its numbers a, b, c; the thread stands behind it already. -/
def orderX (mode : Int) (s : Sx) (t : Nat) (op a b c : Int) : Sx :=
  if op = 1 then setR s t a b
  else if op = 2 then setR s t a (getR s t b)
  else if op = 3 then setR s t a (IntKind.i64.wrap (getR s t b + getR s t c))
  else if op = 4 then setR s t a (IntKind.i64.wrap (getR s t b - getR s t c))
  else if op = 5 then setR s t a (IntKind.i64.wrap (getR s t b * getR s t c))
  else if op = 6 then setR s t a (bitI (decide (getR s t b < getR s t c)))
  else if op = 7 then setR s t a (bitI (decide (getR s t b = getR s t c)))
  else if op = 8 then setR s t a (findsW s t b)
  else if op = 9 then storeW mode s t ⟨false, a, getR s t b⟩
  else if op = 10 then (if getR s t b < 0 ∨ (s.words.length : Int) ≤ getR s t b then fallX s else setR s t a (findsW s t (getR s t b)))
  else if op = 11 then (if getR s t a < 0 ∨ (s.words.length : Int) ≤ getR s t a then fallX s else storeW mode s t ⟨false, getR s t a, getR s t b⟩)
  else if op = 13 then (if s.words.getD a.toNat 0 = getR s t b then setR { s with words := s.words.set a.toNat (getR s t c) } t b 1 else setR s t b 0)
  else if op = 14 then setTh s t { thOf s t with pc := a.toNat }
  else if op = 15 then (if getR s t a = 0 then setTh s t { thOf s t with pc := b.toNat } else s)
  else if op = 16 then { s with prints := s.prints ++ [(t : Int), getR s t a] }
  else if op = 17 then { s with own := s.own.set a.toNat t }
  else if op = 18 then (if s.own.getD a.toNat 0 ≠ t ∨ ((thOf s t).wait.any fun x => x.lk && decide (x.wh = a)) = true then fallX s else storeW mode s t ⟨true, a, 0⟩)
  else s
/-- A move: eight times a thread's number: its order; k more: the k-th one that waits. -/
def doX (mode : Int) (s : Sx) (mv : Nat) : Sx :=
  let t := mv / 8
  let k := mv % 8
  if 0 < k then
    let s' := doneW s ((thOf s t).wait.getD (k - 1) default)
    setTh s' t { thOf s' t with wait := (thOf s' t).wait.eraseIdx (k - 1) }
  else
    let pc := (thOf s t).pc
    orderX mode (setTh s t { thOf s t with pc := pc + 1 }) t (X t pc 0) (X t pc 1) (X t pc 2) (X t pc 3)
end
/-- The state ahead of the first step. -/
def beginX (n : Nat) (words : List Int) (lk rg : Int) : Sx :=
  { ths := List.replicate n { pc := 0, regs := List.replicate rg.toNat 0, wait := [] }, words := words, own := List.replicate lk.toNat (-1), prints := [], fell := false }

theorem bit_any (b : Bool) (w : World) : Calls Tryd.prog 97 #[.bool b] w fun e w' => e = .returned (.int .i64 (bitI b)) ∧ w' = w := by
  go_enter Tryd.func97, Tryd.ntmps97
  cases b <;> go_wp2 <;> go_ret <;> exact ⟨rfl, rfl⟩
end

section
open Go.RowKit

/-- The state of a run, as it is read: its box at sb, its threads at tb. -/
structure SIn (w : World) (sb : Nat) (ca : Option Addr) (n cc : Nat) (mode : Int) (tb tc : Nat) (rv qv : Nat → Value) (wv ov pv : Value) (s : Sx) : Prop where
  code : w.cell? ⟨sb, 0, none⟩ = some (.slice ca n cc)
  mode : w.cell? ⟨sb, 4, none⟩ = some (.int .i64 mode)
  ths : w.cell? ⟨sb, 5, none⟩ = some (.slice (some ⟨tb, 0, none⟩) s.ths.length tc)
  words : w.cell? ⟨sb, 6, none⟩ = some wv
  own : w.cell? ⟨sb, 7, none⟩ = some ov
  prints : w.cell? ⟨sb, 8, none⟩ = some pv
  fell : w.cell? ⟨sb, 9, none⟩ = some (.bool s.fell)
  pc : ∀ t, t < s.ths.length → w.cell? ⟨tb, t * 3, none⟩ = some (.int .i64 (thOf s t).pc)
  regs : ∀ t, t < s.ths.length → w.cell? ⟨tb, t * 3 + 1, none⟩ = some (rv t)
  wait : ∀ t, t < s.ths.length → w.cell? ⟨tb, t * 3 + 2, none⟩ = some (qv t)

set_option maxRecDepth 100000 in
set_option maxHeartbeats 1600000 in
theorem next_ended (sb : Nat) (ca : Option Addr) (n cc : Nat) (mode : Int) (tb tc : Nat) (rv qv : Nat → Value) (wv ov pv : Value) (s : Sx) (A : Nat → Option Addr) (L C : Nat → Nat) (X : Nat → Nat → Nat → Int) (hn : s.ths.length = n) (t : Nat) (ht : t < n) (_hN : n ≤ 4) (_hL : L t ≤ 1000) (_hpc : (thOf s t).pc ≤ 1000) (hend : L t ≤ (thOf s t).pc) (w : World) (hs : SIn w sb ca n cc mode tb tc rv qv wv ov pv s) (hp : PIn w ca n A L C X) :
    Calls Tryd.prog 93 #[.pointer (some ⟨sb, 0, none⟩), .int .i64 t] w fun e w' => e = .returned (.tuple #[.agg #[.int .i64 0, .int .i64 0, .int .i64 0, .int .i64 0], .bool false]) ∧ Below w.heap.size w w' := by
  obtain ⟨cb, co, rfl, hcell⟩ := hp.code t ht
  have h0 := cell_up hs.code
  have h5 := cell_up hs.ths
  have hpcc := cell_up (hs.pc t (by omega))
  have hcc := cell_up hcell
  simp only [hn] at h5
  obtain ⟨k, hk⟩ : ∃ k, (thOf s t).pc = k := ⟨_, rfl⟩
  simp only [hk] at hpcc _hpc hend
  go_enter Tryd.func93, Tryd.ntmps93
  go_wp2
  refine bodyPost_ret (v := .tuple #[.agg #[.int .i64 0, .int .i64 0, .int .i64 0, .int .i64 0], .bool false]) (by simp [results, Tryd.results93, go_sem]) rfl ⟨rfl, (Below.refl _ _).alloc (Nat.le_refl _) _⟩

set_option maxRecDepth 100000 in
set_option maxHeartbeats 1600000 in
theorem next_more (sb : Nat) (ca : Option Addr) (n cc : Nat) (mode : Int) (tb tc : Nat) (rv qv : Nat → Value) (wv ov pv : Value) (s : Sx) (A : Nat → Option Addr) (L C : Nat → Nat) (X : Nat → Nat → Nat → Int) (hn : s.ths.length = n) (t : Nat) (ht : t < n) (_hN : n ≤ 4) (_hL : L t ≤ 1000) (hend : (thOf s t).pc < L t) (w : World) (hs : SIn w sb ca n cc mode tb tc rv qv wv ov pv s) (hp : PIn w ca n A L C X) :
    Calls Tryd.prog 93 #[.pointer (some ⟨sb, 0, none⟩), .int .i64 t] w fun e w' => e = .returned (.tuple #[.agg #[.int .i64 (opT X s t 0), .int .i64 (opT X s t 1), .int .i64 (opT X s t 2), .int .i64 (opT X s t 3)], .bool true]) ∧ Below w.heap.size w w' := by
  obtain ⟨cb, co, rfl, hcell⟩ := hp.code t ht
  have h0 := cell_up hs.code
  have h5 := cell_up hs.ths
  have hpcc := cell_up (hs.pc t (by omega))
  have hcc := cell_up hcell
  simp only [hn] at h5
  unfold opT
  obtain ⟨k, hk⟩ : ∃ k, (thOf s t).pc = k := ⟨_, rfl⟩
  simp only [hk] at hpcc hend ⊢
  obtain ⟨ob, oo, hA, x0, x1, x2, x3⟩ := hp.ord t k ht hend
  rw [hA] at hcc
  have y0 := cell_up x0
  have y1 := cell_up x1
  have y2 := cell_up x2
  have y3 := cell_up x3
  obtain ⟨v0, e0⟩ : ∃ v, X t k 0 = v := ⟨_, rfl⟩
  obtain ⟨v1, e1⟩ : ∃ v, X t k 1 = v := ⟨_, rfl⟩
  obtain ⟨v2, e2⟩ : ∃ v, X t k 2 = v := ⟨_, rfl⟩
  obtain ⟨v3, e3⟩ : ∃ v, X t k 3 = v := ⟨_, rfl⟩
  simp only [e0] at y0 ⊢
  simp only [e1] at y1 ⊢
  simp only [e2] at y2 ⊢
  simp only [e3] at y3 ⊢
  go_enter Tryd.func93, Tryd.ntmps93
  go_wp2
  refine bodyPost_ret (v := .tuple #[.agg #[.int .i64 v0, .int .i64 v1, .int .i64 v2, .int .i64 v3], .bool true]) (by simp [results, Tryd.results93, go_sem]) rfl ⟨rfl, (Below.refl _ _).alloc (Nat.le_refl _) _⟩
end

section
open Go.RowKit

/-- The rows of a state. -/
inductive Rl where
  | box
  | thr
  | words
  | own
  | prints
  | regs (t : Nat)
  | wait (t : Nat)
deriving DecidableEq

def rTy : Rl → TypeId
  | .box => 136
  | .thr => 159
  | .wait _ => 168
  | _ => 3
def rSz : Rl → Nat
  | .box => 10
  | .thr => 3
  | .wait _ => 3
  | _ => 1
def rN (s : Sx) : Rl → Nat
  | .box => 1
  | .thr => s.ths.length
  | .words => s.words.length
  | .own => s.own.length
  | .prints => s.prints.length
  | .regs t => (thOf s t).regs.length
  | .wait t => (thOf s t).wait.length
/-- A program as a value, and the mode. -/
structure Pg where
  ca : Option Addr
  n : Nat
  cc : Nat
  wa : Option Addr
  m : Nat
  wc : Nat
  lk : Int
  rg : Int
  mode : Int
def waitC (x : Wt) (j : Nat) : Value := if j = 0 then .bool x.lk else if j = 1 then .int .i64 x.wh else .int .i64 x.what
def waitV (l : List Wt) : List Value := rows3 l.length fun i j => waitC (l.getD i default) j
def thrC (v : Rl → Value) (s : Sx) (t j : Nat) : Value := if j = 0 then .int .i64 (thOf s t).pc else if j = 1 then v (.regs t) else v (.wait t)
def rX (P : Pg) (v : Rl → Value) (s : Sx) : Rl → List Value
  | .box => [.slice P.ca P.n P.cc, .slice P.wa P.m P.wc, .int .i64 P.lk, .int .i64 P.rg, .int .i64 P.mode, v .thr, v .words, v .own, v .prints, .bool s.fell]
  | .thr => rows3 s.ths.length (thrC v s)
  | .words => intsV s.words
  | .own => intsV s.own
  | .prints => intsV s.prints
  | .regs t => intsV (thOf s t).regs
  | .wait t => waitV (thOf s t).wait

structure DSt (w : World) (B : Nat) (P : Pg) (sb : Nat) (v : Rl → Value) (s : Sx) : Prop where
  fam : Fam w B rTy rSz v (rN s) (rX P v s)
  box : v .box = boxV sb

theorem thOf_set {s : Sx} {t : Nat} (ht : t < s.ths.length) (x : Th) (u : Nat) : thOf (setTh s t x) u = if u = t then x else thOf s u := by
  unfold thOf setTh
  simp only [List.getD, List.getElem?_set]
  by_cases h : u = t
  · subst h; simp [ht]
  · rw [if_neg (fun e => h e.symm), if_neg h]

section
variable {w w1 : World} {B : Nat} {P : Pg} {sb : Nat} {v : Rl → Value} {s : Sx}

theorem DSt.below (h : DSt w B P sb v s) (hb : Below w.heap.size w w1) : DSt w1 B P sb v s := ⟨h.fam.below hb, h.box⟩
theorem DSt.bblk (h : DSt w B P sb v s) : (v .box).ownBlock = some sb := by rw [h.box]; rfl
theorem DSt.c0 (h : DSt w B P sb v s) : w.cell? ⟨sb, 0, none⟩ = some (.slice P.ca P.n P.cc) := h.fam.cell h.bblk rfl
theorem DSt.c4 (h : DSt w B P sb v s) : w.cell? ⟨sb, 4, none⟩ = some (.int .i64 P.mode) := h.fam.cell h.bblk rfl
theorem DSt.c5 (h : DSt w B P sb v s) : w.cell? ⟨sb, 5, none⟩ = some (v .thr) := h.fam.cell h.bblk rfl
theorem DSt.c6 (h : DSt w B P sb v s) : w.cell? ⟨sb, 6, none⟩ = some (v .words) := h.fam.cell h.bblk rfl
theorem DSt.c7 (h : DSt w B P sb v s) : w.cell? ⟨sb, 7, none⟩ = some (v .own) := h.fam.cell h.bblk rfl
theorem DSt.c8 (h : DSt w B P sb v s) : w.cell? ⟨sb, 8, none⟩ = some (v .prints) := h.fam.cell h.bblk rfl
theorem DSt.c9 (h : DSt w B P sb v s) : w.cell? ⟨sb, 9, none⟩ = some (.bool s.fell) := h.fam.cell h.bblk rfl
theorem DSt.thrB (h : DSt w B P sb v s) (hn : 0 < s.ths.length) : ∃ tb tc, v .thr = .slice (some ⟨tb, 0, none⟩) s.ths.length tc ∧ (v .thr).ownBlock = some tb ∧ tb < w.heap.size := by
  obtain ⟨g, c, h1, h2, _, h4⟩ := fam_block (h.fam.own .thr) (by exact hn)
  exact ⟨g, c, h1, h2, h4⟩
theorem DSt.wordsV (h : DSt w B P sb v s) : ∃ a c, v .words = .slice a s.words.length c := fam_form (h.fam.own .words)
theorem DSt.ownV (h : DSt w B P sb v s) : ∃ a c, v .own = .slice a s.own.length c := fam_form (h.fam.own .own)
theorem DSt.printsV (h : DSt w B P sb v s) : ∃ a c, v .prints = .slice a s.prints.length c := fam_form (h.fam.own .prints)
theorem DSt.waitV (h : DSt w B P sb v s) (t : Nat) : ∃ a c, v (.wait t) = .slice a (thOf s t).wait.length c := fam_form (h.fam.own (.wait t))
theorem DSt.regsV (h : DSt w B P sb v s) (t : Nat) : ∃ a c, v (.regs t) = .slice a (thOf s t).regs.length c := fam_form (h.fam.own (.regs t))
theorem DSt.regsB (h : DSt w B P sb v s) {t : Nat} (hn : 0 < (thOf s t).regs.length) : ∃ rb rc, v (.regs t) = .slice (some ⟨rb, 0, none⟩) (thOf s t).regs.length rc ∧ (v (.regs t)).ownBlock = some rb ∧ rb < w.heap.size := by
  obtain ⟨g, c, h1, h2, _, h4⟩ := fam_block (h.fam.own (.regs t)) (by exact hn)
  exact ⟨g, c, h1, h2, h4⟩
theorem DSt.wordsB (h : DSt w B P sb v s) (hn : 0 < s.words.length) : ∃ rb rc, v .words = .slice (some ⟨rb, 0, none⟩) s.words.length rc ∧ (v .words).ownBlock = some rb ∧ rb < w.heap.size := by
  obtain ⟨g, c, h1, h2, _, h4⟩ := fam_block (h.fam.own .words) (by exact hn)
  exact ⟨g, c, h1, h2, h4⟩
theorem DSt.ownB (h : DSt w B P sb v s) (hn : 0 < s.own.length) : ∃ rb rc, v .own = .slice (some ⟨rb, 0, none⟩) s.own.length rc ∧ (v .own).ownBlock = some rb ∧ rb < w.heap.size := by
  obtain ⟨g, c, h1, h2, _, h4⟩ := fam_block (h.fam.own .own) (by exact hn)
  exact ⟨g, c, h1, h2, h4⟩
theorem DSt.waitB (h : DSt w B P sb v s) {t : Nat} (hn : 0 < (thOf s t).wait.length) : ∃ rb rc, v (.wait t) = .slice (some ⟨rb, 0, none⟩) (thOf s t).wait.length rc ∧ (v (.wait t)).ownBlock = some rb ∧ rb < w.heap.size := by
  obtain ⟨g, c, h1, h2, _, h4⟩ := fam_block (h.fam.own (.wait t)) (by exact hn)
  exact ⟨g, c, h1, h2, h4⟩
theorem DSt.pc (h : DSt w B P sb v s) {tb t : Nat} (e : (v .thr).ownBlock = some tb) (ht : t < s.ths.length) : w.cell? ⟨tb, t * 3, none⟩ = some (.int .i64 (thOf s t).pc) := h.fam.cell e (rows3_get (j := 0) ht (by omega))
theorem DSt.regs (h : DSt w B P sb v s) {tb t : Nat} (e : (v .thr).ownBlock = some tb) (ht : t < s.ths.length) : w.cell? ⟨tb, t * 3 + 1, none⟩ = some (v (.regs t)) := h.fam.cell e (rows3_get (j := 1) ht (by omega))
theorem DSt.wait (h : DSt w B P sb v s) {tb t : Nat} (e : (v .thr).ownBlock = some tb) (ht : t < s.ths.length) : w.cell? ⟨tb, t * 3 + 2, none⟩ = some (v (.wait t)) := h.fam.cell e (rows3_get (j := 2) ht (by omega))
theorem DSt.reg (h : DSt w B P sb v s) {rb t r : Nat} (e : (v (.regs t)).ownBlock = some rb) (hr : r < (thOf s t).regs.length) : w.cell? ⟨rb, r, none⟩ = some (.int .i64 (getR s t r)) := by
  refine (h.fam.cell e (intsV_at hr)).trans ?_
  simp [getR]
theorem DSt.word (h : DSt w B P sb v s) {rb r : Nat} (e : (v .words).ownBlock = some rb) (hr : r < s.words.length) : w.cell? ⟨rb, r, none⟩ = some (.int .i64 (s.words.getD r 0)) := h.fam.cell e (intsV_at hr)
theorem DSt.owner (h : DSt w B P sb v s) {rb r : Nat} (e : (v .own).ownBlock = some rb) (hr : r < s.own.length) : w.cell? ⟨rb, r, none⟩ = some (.int .i64 (s.own.getD r 0)) := h.fam.cell e (intsV_at hr)
theorem DSt.sin (h : DSt w B P sb v s) {tb tc : Nat} (e : v .thr = .slice (some ⟨tb, 0, none⟩) s.ths.length tc) : SIn w sb P.ca P.n P.cc P.mode tb tc (fun t => v (.regs t)) (fun t => v (.wait t)) (v .words) (v .own) (v .prints) s :=
  ⟨h.c0, h.c4, by rw [← e]; exact h.c5, h.c6, h.c7, h.c8, h.c9, fun _ ht => h.pc (by rw [e]; rfl) ht, fun _ ht => h.regs (by rw [e]; rfl) ht, fun _ ht => h.wait (by rw [e]; rfl) ht⟩

theorem ths_set (s : Sx) (t : Nat) (x : Th) : (setTh s t x).ths.length = s.ths.length := by simp [setTh]
theorem rN_setTh {t : Nat} (ht : t < s.ths.length) {x : Th} (hr : x.regs.length = (thOf s t).regs.length) (hw : x.wait.length = (thOf s t).wait.length) : ∀ q, rN (setTh s t x) q = rN s q
  | .box => rfl
  | .thr => ths_set _ _ _
  | .words => rfl
  | .own => rfl
  | .prints => rfl
  | .regs u => by
    show (thOf (setTh s t x) u).regs.length = (thOf s u).regs.length
    rw [thOf_set ht]
    split
    · rename_i h; rw [h]; exact hr
    · rfl
  | .wait u => by
    show (thOf (setTh s t x) u).wait.length = (thOf s u).wait.length
    rw [thOf_set ht]
    split
    · rename_i h; rw [h]; exact hw
    · rfl
/-- What a change of a thread leaves as it was. -/
theorem rX_setTh {t : Nat} (ht : t < s.ths.length) {x : Th} : (∀ q, q ≠ .thr → (q = .regs t → x.regs = (thOf s t).regs) → (q = .wait t → x.wait = (thOf s t).wait) → rX P v (setTh s t x) q = rX P v s q)
  | .box, _, _, _ => rfl
  | .thr, h, _, _ => absurd rfl h
  | .words, _, _, _ => rfl
  | .own, _, _, _ => rfl
  | .prints, _, _, _ => rfl
  | .regs u, _, h, _ => by
    show intsV (thOf (setTh s t x) u).regs = intsV (thOf s u).regs
    rw [thOf_set ht]
    split
    · rename_i e; subst e; rw [h rfl]
    · rfl
  | .wait u, _, _, h => by
    show Go.Proofs.YtocfocjnnjdcgaaDoor.waitV (thOf (setTh s t x) u).wait = Go.Proofs.YtocfocjnnjdcgaaDoor.waitV (thOf s u).wait
    rw [thOf_set ht]
    split
    · rename_i e; subst e; rw [h rfl]
    · rfl
/-- A change of a thread that keeps its place leaves the row of threads as it was. -/
theorem rX_thr {t : Nat} (ht : t < s.ths.length) {x : Th} (hp : x.pc = (thOf s t).pc) : rX P v (setTh s t x) .thr = rX P v s .thr := by
  show rows3 (setTh s t x).ths.length (thrC v (setTh s t x)) = rows3 s.ths.length (thrC v s)
  rw [ths_set]
  refine rows3_congr fun a b _ => ?_
  unfold thrC
  rw [thOf_set ht]
  by_cases h1 : a = t
  · subst h1; rw [if_pos rfl, hp]
  · rw [if_neg h1]

/-- A thread's place. -/
theorem DSt.setPc (h : DSt w B P sb v s) {tb t : Nat} (e : (v .thr).ownBlock = some tb) (ht : t < s.ths.length) (k : Nat) : DSt (w.setCell ⟨tb, t * 3, none⟩ (.int .i64 k)) B P sb v (setTh s t { thOf s t with pc := k }) := by
  refine ⟨h.fam.put (r := .thr) e (t * 3) _ (rN_setTh ht rfl rfl) ?_ (fun q hq => rX_setTh ht q hq (fun _ => rfl) (fun _ => rfl)), h.box⟩
  show rows3 (setTh s t _).ths.length (thrC v (setTh s t _)) = (rows3 s.ths.length (thrC v s)).set (t * 3 + 0) _
  rw [ths_set]
  refine rows3_set (by omega) ?_ ?_
  · simp [thrC, thOf_set ht]
  · intro a b _ hab
    simp only [thrC, thOf_set ht]
    by_cases h1 : a = t
    · subst h1
      have : b ≠ 0 := fun e => hab ⟨rfl, e⟩
      simp [this]
    · simp [h1]
/-- A register. -/
theorem DSt.setReg (h : DSt w B P sb v s) {rb t : Nat} (e : (v (.regs t)).ownBlock = some rb) (ht : t < s.ths.length) (r : Nat) (x : Int) : DSt (w.setCell ⟨rb, r, none⟩ (.int .i64 x)) B P sb v (setR s t r x) := by
  refine ⟨h.fam.put (r := .regs t) e r _ (rN_setTh ht (by simp) rfl) ?_ (fun q hq => ?_), h.box⟩
  · show intsV (thOf (setR s t r x) t).regs = (intsV (thOf s t).regs).set r _
    rw [setR, thOf_set ht, if_pos rfl, intsV_set]
    simp
  · by_cases h1 : q = .thr
    · subst h1; exact rX_thr ht rfl
    · exact rX_setTh ht q h1 (fun e => absurd e hq) (fun _ => rfl)
/-- A word. -/
theorem DSt.setWord (h : DSt w B P sb v s) {rb : Nat} (e : (v .words).ownBlock = some rb) (r : Nat) (x : Int) : DSt (w.setCell ⟨rb, r, none⟩ (.int .i64 x)) B P sb v { s with words := s.words.set r x } := by
  refine ⟨h.fam.put (r := .words) e r _ (fun q => ?_) ?_ (fun q hq => ?_), h.box⟩
  · cases q <;> first | rfl | simp [rN]
  · exact intsV_set _ _ _
  · cases q <;> first | rfl | exact absurd rfl hq
/-- A lock. -/
theorem DSt.setOwn (h : DSt w B P sb v s) {rb : Nat} (e : (v .own).ownBlock = some rb) (r : Nat) (x : Int) : DSt (w.setCell ⟨rb, r, none⟩ (.int .i64 x)) B P sb v { s with own := s.own.set r x } := by
  refine ⟨h.fam.put (r := .own) e r _ (fun q => ?_) ?_ (fun q hq => ?_), h.box⟩
  · cases q <;> first | rfl | simp [rN]
  · exact intsV_set _ _ _
  · cases q <;> first | rfl | exact absurd rfl hq
/-- The run falls. -/
theorem DSt.fall (h : DSt w B P sb v s) : DSt (w.setCell ⟨sb, 9, none⟩ (.bool true)) B P sb v (fallX s) := by
  refine ⟨h.fam.put (r := .box) h.bblk 9 _ (fun q => ?_) rfl (fun q hq => ?_), h.box⟩
  · cases q <;> rfl
  · cases q <;> first | rfl | exact absurd rfl hq
/-- A print. -/
theorem DSt.print (h : DSt w B P sb v s) {g c H : Nat} {a b : Int} (hown : w1.ownsRow B 3 1 (.slice (some ⟨g, 0, none⟩) (s.prints.length + 2) c) (s.prints.length + 2) (intsV s.prints ++ [.int .i64 a, .int .i64 b])) (hgrow : w.grownBy w1 (v .prints).ownBlock) (hat : (v .prints).ownBlock = some g ∨ g = H) (hH : w.heap.size ≤ H) :
    DSt (w1.setCell ⟨sb, 8, none⟩ (.slice (some ⟨g, 0, none⟩) (s.prints.length + 2) c)) B P sb (upd v .prints (.slice (some ⟨g, 0, none⟩) (s.prints.length + 2) c)) { s with prints := s.prints ++ [a, b] } := by
  obtain ⟨x, hx⟩ : ∃ x : Value, x = .slice (some ⟨g, 0, none⟩) (s.prints.length + 2) c := ⟨_, rfl⟩
  have h1 := h.fam.grow (r := .prints) (n1 := rN { s with prints := s.prints ++ [a, b] }) (xs1 := fun q => if q = .prints then intsV s.prints ++ [.int .i64 a, .int .i64 b] else rX P v s q) hown hgrow hat hH (by simp [rN]) (fun q hq => by cases q <;> first | rfl | exact absurd rfl hq) (if_pos rfl) (fun q hq => if_neg hq)
  rw [← hx] at h1 ⊢
  refine ⟨h1.put (r := .box) (by rw [upd_ne _ _ (by decide)]; exact h.bblk) 8 _ (fun q => rfl) ?_ (fun q hq => ?_), by rw [upd_ne _ _ (by decide)]; exact h.box⟩
  · rw [if_neg (by decide)]
    simp only [rX, upd_self]
    rw [upd_ne _ _ (by decide), upd_ne _ _ (by decide), upd_ne _ _ (by decide)]
    rfl
  · cases q with
    | box => exact absurd rfl hq
    | prints => rw [if_pos rfl]; simp [rX, intsV]
    | thr =>
      rw [if_neg (by decide)]
      refine rows3_congr fun a b _ => ?_
      unfold thrC
      rw [upd_ne _ _ (by simp), upd_ne _ _ (by simp)]
      rfl
    | words => rw [if_neg (by decide)]; rfl
    | own => rw [if_neg (by decide)]; rfl
    | regs u => rw [if_neg (by simp)]; rfl
    | wait u => rw [if_neg (by simp)]; rfl
theorem waitV_snoc (l : List Wt) (x : Wt) : Go.Proofs.YtocfocjnnjdcgaaDoor.waitV (l ++ [x]) = Go.Proofs.YtocfocjnnjdcgaaDoor.waitV l ++ [.bool x.lk, .int .i64 x.wh, .int .i64 x.what] := by
  unfold Go.Proofs.YtocfocjnnjdcgaaDoor.waitV
  rw [List.length_append, List.length_singleton, rows3_snoc]
  congr 1
  · refine rows3_congr fun t j ht => ?_
    congr 1
    simp [List.getD, List.getElem?_append_left ht]
  · simp [waitC, List.getD]
/-- The row of a thread's waiting is another one. -/
theorem DSt.newWait (h : DSt w B P sb v s) {tb t : Nat} (e : (v .thr).ownBlock = some tb) (ht : t < s.ths.length) {g c H : Nat} {l : List Wt} (hown : w1.ownsRow B 168 3 (.slice (some ⟨g, 0, none⟩) l.length c) l.length (Go.Proofs.YtocfocjnnjdcgaaDoor.waitV l)) (hgrow : w.grownBy w1 (v (.wait t)).ownBlock) (hat : (v (.wait t)).ownBlock = some g ∨ g = H) (hH : w.heap.size ≤ H) :
    DSt (w1.setCell ⟨tb, t * 3 + 2, none⟩ (.slice (some ⟨g, 0, none⟩) l.length c)) B P sb (upd v (.wait t) (.slice (some ⟨g, 0, none⟩) l.length c)) (setTh s t { thOf s t with wait := l }) := by
  obtain ⟨x, hx⟩ : ∃ x : Value, x = .slice (some ⟨g, 0, none⟩) l.length c := ⟨_, rfl⟩
  have hnn : ∀ q, q ≠ .wait t → rN (setTh s t { thOf s t with wait := l }) q = rN s q := fun q hq => by
    cases q with
    | thr => exact ths_set _ _ _
    | regs u =>
      show (thOf (setTh s t _) u).regs.length = (thOf s u).regs.length
      rw [thOf_set ht]
      split
      · rename_i h; rw [h]
      · rfl
    | wait u =>
      show (thOf (setTh s t _) u).wait.length = (thOf s u).wait.length
      rw [thOf_set ht, if_neg (fun e => hq (by rw [e]))]
    | box => rfl
    | words => rfl
    | own => rfl
    | prints => rfl
  have h1 := h.fam.grow (r := .wait t) (n1 := rN (setTh s t { thOf s t with wait := l })) (xs1 := fun q => if q = .wait t then Go.Proofs.YtocfocjnnjdcgaaDoor.waitV l else rX P v s q) hown hgrow hat hH (by show (thOf (setTh s t _) t).wait.length = _; rw [thOf_set ht, if_pos rfl]) hnn (if_pos rfl) (fun q hq => if_neg hq)
  rw [← hx] at h1 ⊢
  refine ⟨h1.put (r := .thr) (by rw [upd_ne _ _ (by simp)]; exact e) (t * 3 + 2) _ (fun q => rfl) ?_ (fun q hq => ?_), by rw [upd_ne _ _ (by simp)]; exact h.box⟩
  · rw [if_neg (by simp)]
    show rows3 (setTh s t _).ths.length (thrC _ (setTh s t _)) = (rows3 s.ths.length (thrC v s)).set (t * 3 + 2) _
    rw [ths_set]
    refine rows3_set (by omega) ?_ ?_
    · simp [thrC, upd_self]
    · intro a b hb3 hab
      simp only [thrC, thOf_set ht]
      rw [upd_ne _ _ (by simp)]
      by_cases h1 : a = t
      · subst h1
        rw [if_pos rfl]
        by_cases hb : b = 0
        · rw [if_pos hb, if_pos hb]
        · by_cases hb1 : b = 1
          · rw [if_neg hb, if_neg hb, if_pos hb1, if_pos hb1]
          · exact absurd ⟨rfl, by omega⟩ hab
      · rw [if_neg h1, upd_ne _ _ (by simpa using h1)]
  · cases q with
    | thr => exact absurd rfl hq
    | wait u =>
      show Go.Proofs.YtocfocjnnjdcgaaDoor.waitV (thOf (setTh s t _) u).wait = _
      rw [thOf_set ht]
      by_cases hu : u = t
      · rw [if_pos hu, if_pos (by rw [hu])]
      · rw [if_neg hu, if_neg (by simpa using hu)]; rfl
    | box => 
      rw [if_neg (by simp)]
      simp only [rX]
      rw [upd_ne _ _ (by simp), upd_ne _ _ (by simp), upd_ne _ _ (by simp), upd_ne _ _ (by simp)]
      rfl
    | prints => rw [if_neg (by simp)]; rfl
    | words => rw [if_neg (by simp)]; rfl
    | own => rw [if_neg (by simp)]; rfl
    | regs u =>
      rw [if_neg (by simp)]
      show intsV (thOf (setTh s t _) u).regs = intsV (thOf s u).regs
      rw [thOf_set ht]
      split
      · rename_i h; rw [h]
      · rfl
end
end

section
open Go.RowKit

/-! Outcomes and their order. -/
/-- An outcome: how a run ended, the words, what was printed. -/
structure Oc where
  st : Int
  ws : List Int
  pr : List Int
deriving DecidableEq, Inhabited
/-- The order of lists. -/
def lexL : List Int → List Int → Bool
  | [], [] => false
  | [], _ :: _ => true
  | _ :: _, [] => false
  | a :: l, b :: r => if a = b then lexL l r else decide (a < b)
/-- The order of outcomes. -/
def aheadO (a b : Oc) : Bool := if a.st ≠ b.st then decide (a.st < b.st) else if a.ws ≠ b.ws then lexL a.ws b.ws else lexL a.pr b.pr
theorem lex_irr : ∀ l : List Int, lexL l l = false
  | [] => rfl
  | a :: l => by unfold lexL; rw [if_pos rfl]; exact lex_irr l
theorem lex_trans : ∀ {a b c : List Int}, lexL a b = true → lexL b c = true → lexL a c = true
  | [], _, [], h1, h2 => by
    rename_i b
    cases b with
    | nil => cases h1
    | cons x r => cases h2
  | [], _, _ :: _, _, _ => rfl
  | _ :: _, [], _, h1, _ => by cases h1
  | _ :: _, _ :: _, [], _, h2 => by cases h2
  | x :: a, y :: b, z :: c, h1, h2 => by
    unfold lexL at h1 h2 ⊢
    by_cases e1 : x = y
    · rw [if_pos e1] at h1
      by_cases e2 : y = z
      · rw [if_pos e2] at h2
        rw [if_pos (e1.trans e2)]
        exact lex_trans h1 h2
      · rw [if_neg e2] at h2
        rw [if_neg (by rw [e1]; exact e2), e1]
        exact h2
    · rw [if_neg e1] at h1
      have h1 := of_decide_eq_true h1
      by_cases e2 : y = z
      · rw [if_neg (by rw [← e2]; exact e1), ← e2]
        exact decide_eq_true h1
      · rw [if_neg e2] at h2
        have h2 := of_decide_eq_true h2
        rw [if_neg (by omega)]
        exact decide_eq_true (by omega)
theorem lex_tri : ∀ {a b : List Int}, lexL a b = false → lexL b a = false → a = b
  | [], [], _, _ => rfl
  | [], _ :: _, h, _ => by cases h
  | _ :: _, [], _, h => by cases h
  | x :: a, y :: b, h1, h2 => by
    unfold lexL at h1 h2
    by_cases e : x = y
    · rw [if_pos e] at h1
      rw [if_pos e.symm] at h2
      rw [e, lex_tri h1 h2]
    · rw [if_neg e] at h1
      rw [if_neg (fun h => e h.symm)] at h2
      have h1 := of_decide_eq_false h1
      have h2 := of_decide_eq_false h2
      omega
theorem ahead_irr (a : Oc) : aheadO a a = false := by
  unfold aheadO
  rw [if_neg (by simp), if_neg (by simp)]
  exact lex_irr _
theorem ahead_trans {a b c : Oc} (h1 : aheadO a b = true) (h2 : aheadO b c = true) : aheadO a c = true := by
  unfold aheadO at *
  by_cases e1 : a.st = b.st
  · rw [if_neg (by simpa using e1)] at h1
    by_cases e2 : b.st = c.st
    · rw [if_neg (by simpa using e2)] at h2
      rw [if_neg (by rw [e1, e2]; simp)]
      by_cases w1 : a.ws = b.ws
      · rw [if_neg (by simpa using w1)] at h1
        by_cases w2 : b.ws = c.ws
        · rw [if_neg (by simpa using w2)] at h2
          rw [if_neg (by rw [w1, w2]; simp)]
          exact lex_trans h1 h2
        · rw [if_pos w2] at h2
          rw [if_pos (by rw [w1]; exact w2), w1]
          exact h2
      · rw [if_pos w1] at h1
        by_cases w2 : b.ws = c.ws
        · rw [if_pos (by rw [← w2]; exact w1), ← w2]
          exact h1
        · rw [if_pos w2] at h2
          have h3 := lex_trans h1 h2
          rw [if_pos (fun e => by rw [e, lex_irr] at h3; cases h3)]
          exact h3
    · rw [if_pos e2] at h2
      rw [if_pos (by rw [e1]; exact e2), e1]
      exact h2
  · rw [if_pos e1] at h1
    have h1 := of_decide_eq_true h1
    by_cases e2 : b.st = c.st
    · rw [if_pos (by rw [← e2]; exact e1), ← e2]
      exact decide_eq_true h1
    · rw [if_pos e2] at h2
      have h2 := of_decide_eq_true h2
      rw [if_pos (by omega)]
      exact decide_eq_true (by omega)
theorem ahead_tri {a b : Oc} (h1 : aheadO a b = false) (h2 : aheadO b a = false) : a = b := by
  unfold aheadO at *
  by_cases e : a.st = b.st
  · rw [if_neg (by simpa using e)] at h1
    rw [if_neg (by simpa using e.symm)] at h2
    have ew : a.ws = b.ws := by
      by_cases w : a.ws = b.ws
      · exact w
      · rw [if_pos w] at h1
        rw [if_pos (fun h => w h.symm)] at h2
        exact lex_tri h1 h2
    rw [if_neg (by simpa using ew)] at h1
    rw [if_neg (by simpa using ew.symm)] at h2
    have ep := lex_tri h1 h2
    cases a; cases b
    simp only at e ew ep
    subst e ew ep
    rfl
  · rw [if_pos e] at h1
    rw [if_pos (fun h => e h.symm)] at h2
    have h1 := of_decide_eq_false h1
    have h2 := of_decide_eq_false h2
    omega
theorem ahead_asym {a b : Oc} (h : aheadO a b = true) : aheadO b a = false := by
  cases e : aheadO b a with
  | false => rfl
  | true => have := ahead_trans h e; rw [ahead_irr] at this; cases this
/-- Each comes ahead of all that stand behind it. -/
def SortedO (l : List Oc) : Prop := l.Pairwise fun a b => aheadO a b = true
theorem sorted_same : ∀ {l r : List Oc}, SortedO l → SortedO r → (∀ o, o ∈ l ↔ o ∈ r) → l = r
  | [], [], _, _, _ => rfl
  | [], b :: r, _, _, h => by have := (h b).2 (by simp); cases this
  | a :: l, [], _, _, h => by have := (h a).1 (by simp); cases this
  | a :: l, b :: r, hl, hr, h => by
    rw [SortedO, List.pairwise_cons] at hl hr
    have ha := (h a).1 (by simp)
    have hb := (h b).2 (by simp)
    have e : a = b := by
      rcases List.mem_cons.mp ha with e | ha
      · exact e
      · rcases List.mem_cons.mp hb with e | hb
        · exact e.symm
        · have h1 := hl.1 b hb
          have h2 := hr.1 a ha
          rw [ahead_asym h1] at h2
          cases h2
    subst e
    have hna : ∀ {o}, o ∈ l → o ≠ a := fun ho e => by
      have := hl.1 _ ho
      rw [e, ahead_irr] at this
      cases this
    have hnr : ∀ {o}, o ∈ r → o ≠ a := fun ho e => by
      have := hr.1 _ ho
      rw [e, ahead_irr] at this
      cases this
    rw [sorted_same (l := l) (r := r) hl.2 hr.2 (fun o => ⟨fun ho => by
      rcases List.mem_cons.mp ((h o).1 (by simp [ho])) with e | e
      · exact absurd e (hna ho)
      · exact e, fun ho => by
      rcases List.mem_cons.mp ((h o).2 (by simp [ho])) with e | e
      · exact absurd e (hnr ho)
      · exact e⟩)]
/-- An outcome, into its place, once. -/
def insO (o : Oc) : List Oc → List Oc
  | [] => [o]
  | a :: l => if aheadO o a then o :: a :: l else if aheadO a o then a :: insO o l else a :: l
theorem mem_insO {o x : Oc} : ∀ {l : List Oc}, x ∈ insO o l ↔ x = o ∨ x ∈ l
  | [] => by simp [insO]
  | a :: l => by
    unfold insO
    split
    · simp
    · split
      · rw [List.mem_cons, mem_insO, List.mem_cons]
        constructor
        · rintro (h | h | h)
          · exact Or.inr (Or.inl h)
          · exact Or.inl h
          · exact Or.inr (Or.inr h)
        · rintro (h | h | h)
          · exact Or.inr (Or.inl h)
          · exact Or.inl h
          · exact Or.inr (Or.inr h)
      · rename_i h1 h2
        have e : o = a := ahead_tri (by simpa using h1) (by simpa using h2)
        subst e
        simp
theorem sorted_insO {o : Oc} : ∀ {l : List Oc}, SortedO l → SortedO (insO o l)
  | [], _ => List.pairwise_singleton _ _
  | a :: l, h => by
    unfold insO
    have h' := h
    rw [SortedO, List.pairwise_cons] at h'
    split
    · rename_i h1
      refine List.pairwise_cons.mpr ⟨fun x hx => ?_, h⟩
      rcases List.mem_cons.mp hx with e | hx
      · rw [e]; exact h1
      · exact ahead_trans h1 (h'.1 x hx)
    · split
      · rename_i h1 h2
        refine List.pairwise_cons.mpr ⟨fun x hx => ?_, sorted_insO h'.2⟩
        rcases mem_insO.mp hx with e | hx
        · rw [e]; exact h2
        · exact h'.1 x hx
      · exact h

/-! All that can be come to. -/
section
variable {S : Type}
inductive Rch (nx : S → List S) (s0 : S) : S → Prop
  | base : Rch nx s0 s0
  | step {s t : S} : Rch nx s0 s → t ∈ nx s → Rch nx s0 t
/-- What is told of all that can come: too many states, or all outcomes. -/
def Told (nx : S → List S) (outs : S → List Oc) (s0 : S) (mx : Nat) (full : Bool) (l : List Oc) : Prop :=
  (full = true ∧ ∃ K : List S, K.Nodup ∧ (∀ s, s ∈ K → Rch nx s0 s) ∧ mx < K.length) ∨ (full = false ∧ SortedO l ∧ (∀ o, o ∈ l ↔ ∃ s, Rch nx s0 s ∧ o ∈ outs s) ∧ ∃ K : List S, K.Nodup ∧ (∀ s, s ∈ K ↔ Rch nx s0 s) ∧ K.length ≤ mx)
/-- What holds while states are gone through: K known, P gone through, E outcomes so far. -/
structure Wk (nx : S → List S) (outs : S → List Oc) (s0 : S) (K : List S) (P : S → Prop) (E : Oc → Prop) : Prop where
  nodup : K.Nodup
  first : s0 ∈ K
  reach : ∀ s, s ∈ K → Rch nx s0 s
  known : ∀ s, P s → s ∈ K
  next : ∀ s, P s → ∀ t, t ∈ nx s → t ∈ K
  ends : ∀ o, E o → ∃ s, Rch nx s0 s ∧ o ∈ outs s
  all : ∀ s, P s → ∀ o, o ∈ outs s → E o
theorem Wk.whole {nx : S → List S} {outs : S → List Oc} {s0 : S} {K : List S} {P : S → Prop} {E : Oc → Prop} (h : Wk nx outs s0 K P E) (hP : ∀ s, s ∈ K → P s) : (∀ s, s ∈ K ↔ Rch nx s0 s) ∧ ∀ o, E o ↔ ∃ s, Rch nx s0 s ∧ o ∈ outs s := by
  have hr : ∀ s, Rch nx s0 s → s ∈ K := fun s hs => by
    induction hs with
    | base => exact h.first
    | step _ ht ih => exact h.next _ (hP _ ih) _ ht
  exact ⟨fun s => ⟨h.reach s, hr s⟩, fun o => ⟨h.ends o, fun ⟨s, hs, ho⟩ => h.all s (hP s (hr s hs)) o ho⟩⟩
theorem Wk.told {nx : S → List S} {outs : S → List Oc} {s0 : S} {K : List S} {P : S → Prop} {E : Oc → Prop} {mx : Nat} {l : List Oc} (h : Wk nx outs s0 K P E) (hP : ∀ s, s ∈ K → P s) (hs : SortedO l) (hl : ∀ o, o ∈ l ↔ E o) (hk : K.length ≤ mx) : Told nx outs s0 mx false l := by
  obtain ⟨h1, h2⟩ := h.whole hP
  exact Or.inr ⟨rfl, hs, fun o => (hl o).trans (h2 o), K, h.nodup, h1, hk⟩
theorem Wk.full {nx : S → List S} {outs : S → List Oc} {s0 : S} {K : List S} {P : S → Prop} {E : Oc → Prop} {mx : Nat} (l : List Oc) (h : Wk nx outs s0 K P E) (hk : mx < K.length) : Told nx outs s0 mx true l := Or.inl ⟨rfl, K, h.nodup, h.reach, hk⟩
end
end

end Go.Proofs.YtocfocjnnjdcgaaDoor
