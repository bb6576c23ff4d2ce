/-
  What the document says of runs, as plain functions: what waits, the state of a run, what can be picked, what a move does, a run's trace.
  The state of a run of the document, as it lies in memory; a thread's next order.
-/
import Derived.Test.YtipdnfpomdcenabGreatDoorPlain
import Derived.WalkKit
import Derived.WalkSpells
import Derived.WalkLawsBesides
import Derived.Test.YtipdnfpomdcenabGreatDoorOrder
namespace Go.Proofs.YtipdnfpomdcenabGreatDoor
section
open Go.RowKit

/-- What waits: a store into a word, or that a lock becomes free. -/
structure Wt where
  lk : Bool
  wh : Int
  what : Int
deriving DecidableEq, Inhabited
/-- A thread of a run. -/
structure Th where
  pc : Nat
  regs : List Int
  wait : List Wt
deriving DecidableEq, Inhabited
/-- The state of a run. -/
structure Sx where
  ths : List Th
  words : List Int
  own : List Int
  prints : List Int
  fell : Bool
deriving DecidableEq, Inhabited

section
variable (L : Nat → Nat) (X : Nat → Nat → Nat → Int)

def thOf (s : Sx) (t : Nat) : Th := s.ths.getD t default
def endedT (s : Sx) (t : Nat) : Bool := decide (L t ≤ (thOf s t).pc)
def opT (s : Sx) (t q : Nat) : Int := X t (thOf s t).pc q
/-- Is a thread able to do its next order? -/
def ableT (s : Sx) (t : Nat) : Bool :=
  if endedT L s t then false
  else
    let k := (thOf s t).wait.length
    let op := opT X s t 0
    if op = 9 ∨ op = 11 ∨ op = 18 then decide (k < 3)
    else if op = 12 ∨ op = 13 then decide (k = 0)
    else if op = 17 then decide (k = 0) && decide (s.own.getD (opT X s t 1).toNat 0 = -1)
    else true
/-- May the k-th one that waits be done? -/
def mayW (mode : Int) (l : List Wt) (k : Nat) : Bool :=
  if k = 0 then true
  else if mode = 1 ∨ (l.getD k default).lk = true then false
  else (l.take k).all fun x => !(x.lk || decide (x.wh = (l.getD k default).wh))
/-- What can be picked. -/
def movesT (mode : Int) (s : Sx) (t : Nat) : List Int :=
  (if ableT L X s t then [8 * (t : Int)] else []) ++ ((List.range (thOf s t).wait.length).filter (fun k => mayW mode (thOf s t).wait k)).map fun (k : Nat) => 8 * (t : Int) + (k : Int) + 1
def movesX (mode : Int) (s : Sx) : List Int := (List.range s.ths.length).flatMap fun t => movesT L X mode s t
def endedX (s : Sx) : Bool := (List.range s.ths.length).all fun t => endedT L s t && (thOf s t).wait.isEmpty
def setTh (s : Sx) (t : Nat) (x : Th) : Sx := { s with ths := s.ths.set t x }
/-- One that waited is done. -/
def doneW (s : Sx) (x : Wt) : Sx := if x.lk then { s with own := s.own.set x.wh.toNat (-1) } else { s with words := s.words.set x.wh.toNat x.what }
def storeW (mode : Int) (s : Sx) (t : Nat) (x : Wt) : Sx :=
  if 0 < mode then setTh s t { thOf s t with wait := (thOf s t).wait ++ [x] } else doneW s x
/-- What a thread finds in a word. -/
def findsW (s : Sx) (t : Nat) (wd : Int) : Int :=
  match (thOf s t).wait.reverse.find? fun x => !x.lk && decide (x.wh = wd) with
  | some x => x.what
  | none => s.words.getD wd.toNat 0
def setR (s : Sx) (t : Nat) (r v : Int) : Sx := setTh s t { thOf s t with regs := (thOf s t).regs.set r.toNat v }
def getR (s : Sx) (t : Nat) (r : Int) : Int := (thOf s t).regs.getD r.toNat 0
def bitI (b : Bool) : Int := if b then 1 else 0
def fallX (s : Sx) : Sx := { s with fell := true }
/-- A thread's order op, with its numbers a, b, c; the thread stands behind it already. -/
def orderX (mode : Int) (s : Sx) (t : Nat) (op a b c : Int) : Sx :=
  if op = 1 then setR s t a b
  else if op = 2 then setR s t a (getR s t b)
  else if op = 3 then setR s t a (IntKind.i64.wrap (getR s t b + getR s t c))
  else if op = 4 then setR s t a (IntKind.i64.wrap (getR s t b - getR s t c))
  else if op = 5 then setR s t a (IntKind.i64.wrap (getR s t b * getR s t c))
  else if op = 6 then setR s t a (bitI (decide (getR s t b < getR s t c)))
  else if op = 7 then setR s t a (bitI (decide (getR s t b = getR s t c)))
  else if op = 8 then setR s t a (findsW s t b)
  else if op = 9 then storeW mode s t ⟨false, a, getR s t b⟩
  else if op = 10 then (if getR s t b < 0 ∨ (s.words.length : Int) ≤ getR s t b then fallX s else setR s t a (findsW s t (getR s t b)))
  else if op = 11 then (if getR s t a < 0 ∨ (s.words.length : Int) ≤ getR s t a then fallX s else storeW mode s t ⟨false, getR s t a, getR s t b⟩)
  else if op = 13 then (if s.words.getD a.toNat 0 = getR s t b then setR { s with words := s.words.set a.toNat (getR s t c) } t b 1 else setR s t b 0)
  else if op = 14 then setTh s t { thOf s t with pc := a.toNat }
  else if op = 15 then (if getR s t a = 0 then setTh s t { thOf s t with pc := b.toNat } else s)
  else if op = 16 then { s with prints := s.prints ++ [(t : Int), getR s t a] }
  else if op = 17 then { s with own := s.own.set a.toNat t }
  else if op = 18 then (if s.own.getD a.toNat 0 ≠ t ∨ ((thOf s t).wait.any fun x => x.lk && decide (x.wh = a)) = true then fallX s else storeW mode s t ⟨true, a, 0⟩)
  else s
/-- A move: eight times a thread's number: its order; k more: the k-th one that waits. -/
def doX (mode : Int) (s : Sx) (mv : Nat) : Sx :=
  let t := mv / 8
  let k := mv % 8
  if 0 < k then
    let s' := doneW s ((thOf s t).wait.getD (k - 1) default)
    setTh s' t { thOf s' t with wait := (thOf s' t).wait.eraseIdx (k - 1) }
  else
    let pc := (thOf s t).pc
    orderX mode (setTh s t { thOf s t with pc := pc + 1 }) t (X t pc 0) (X t pc 1) (X t pc 2) (X t pc 3)
/-- Which of k things a script picks, and what is left of it. -/
def pickX (k : Nat) (script : List Int) : Nat × List Int :=
  if k < 2 then (0, script)
  else match script with
  | [] => (0, [])
  | x :: rest => ((x.emod (k : Int)).toNat, rest)
/-- A run: the state at its end, how it ended, how many steps there were; f: how many there may still be. -/
def runX (mode : Int) : Nat → Sx → Nat → List Int → Sx × Int × Nat
  | f, s, steps, script =>
    if endedX L s then (s, 0, steps)
    else
      let l := movesX L X mode s
      if l.isEmpty then (s, 2, steps)
      else match f with
      | 0 => (s, 3, steps)
      | f + 1 =>
        let p := pickX l.length script
        let s' := doX X mode s (l.getD p.1 0).toNat
        if s'.fell then (s', 1, steps + 1) else runX mode f s' (steps + 1) p.2
end
/-- The state ahead of the first step. -/
def beginX (n : Nat) (words : List Int) (lk rg : Int) : Sx :=
  { ths := List.replicate n { pc := 0, regs := List.replicate rg.toNat 0, wait := [] }, words := words, own := List.replicate lk.toNat (-1), prints := [], fell := false }

theorem bit_any (b : Bool) (w : World) : Calls Tryz.prog 96 #[.bool b] w fun e w' => e = .returned (.int .i64 (bitI b)) ∧ w' = w := by
  go_enter Tryz.func96, Tryz.ntmps96
  cases b <;> go_wp2 <;> go_ret <;> exact ⟨rfl, rfl⟩
theorem truth_any (b : Bool) (w : World) : Calls Tryz.prog 137 #[.bool b] w fun e w' => e = .returned (.int .i64 (bitI b)) ∧ w' = w := by
  go_enter Tryz.func137, Tryz.ntmps137
  cases b <;> go_wp2 <;> go_ret <;> exact ⟨rfl, rfl⟩
end

section
open Go.RowKit

/-- What lies in memory lies there when more is made. -/
theorem cell_up {w : World} {a : Addr} {v : Value} (h : w.cell? a = some v) (o : Obj) : (w.alloc o).cell? a = some v := (World.cell?_alloc_lt _ _ _ (lt_of_cell h)).trans h

/-- The state of a run, as it is read: its box at sb, its threads at tb. -/
structure SIn (w : World) (sb : Nat) (ca : Option Addr) (n cc : Nat) (mode : Int) (tb tc : Nat) (rv qv : Nat → Value) (wv ov pv : Value) (s : Sx) : Prop where
  code : w.cell? ⟨sb, 0, none⟩ = some (.slice ca n cc)
  mode : w.cell? ⟨sb, 4, none⟩ = some (.int .i64 mode)
  ths : w.cell? ⟨sb, 5, none⟩ = some (.slice (some ⟨tb, 0, none⟩) s.ths.length tc)
  words : w.cell? ⟨sb, 6, none⟩ = some wv
  own : w.cell? ⟨sb, 7, none⟩ = some ov
  prints : w.cell? ⟨sb, 8, none⟩ = some pv
  fell : w.cell? ⟨sb, 9, none⟩ = some (.bool s.fell)
  pc : ∀ t, t < s.ths.length → w.cell? ⟨tb, t * 3, none⟩ = some (.int .i64 (thOf s t).pc)
  regs : ∀ t, t < s.ths.length → w.cell? ⟨tb, t * 3 + 1, none⟩ = some (rv t)
  wait : ∀ t, t < s.ths.length → w.cell? ⟨tb, t * 3 + 2, none⟩ = some (qv t)

set_option maxRecDepth 100000 in
set_option maxHeartbeats 1600000 in
theorem next_ended (sb : Nat) (ca : Option Addr) (n cc : Nat) (mode : Int) (tb tc : Nat) (rv qv : Nat → Value) (wv ov pv : Value) (s : Sx) (A : Nat → Option Addr) (L C : Nat → Nat) (X : Nat → Nat → Nat → Int) (hn : s.ths.length = n) (t : Nat) (ht : t < n) (_hN : n ≤ 4) (_hL : L t ≤ 400) (_hpc : (thOf s t).pc ≤ 400) (hend : L t ≤ (thOf s t).pc) (w : World) (hs : SIn w sb ca n cc mode tb tc rv qv wv ov pv s) (hp : PIn w ca n A L C X) :
    Calls Tryz.prog 80 #[.pointer (some ⟨sb, 0, none⟩), .int .i64 t] w fun e w' => e = .returned (.tuple #[.agg #[.int .i64 0, .int .i64 0, .int .i64 0, .int .i64 0], .bool false]) ∧ Below w.heap.size w w' := by
  obtain ⟨cb, co, rfl, hcell⟩ := hp.code t ht
  have h0 := cell_up hs.code
  have h5 := cell_up hs.ths
  have hpcc := cell_up (hs.pc t (by omega))
  have hcc := cell_up hcell
  simp only [hn] at h5
  obtain ⟨k, hk⟩ : ∃ k, (thOf s t).pc = k := ⟨_, rfl⟩
  simp only [hk] at hpcc _hpc hend
  go_enter Tryz.func80, Tryz.ntmps80
  go_wp2
  refine bodyPost_ret (v := .tuple #[.agg #[.int .i64 0, .int .i64 0, .int .i64 0, .int .i64 0], .bool false]) (by simp [results, Tryz.results80, go_sem]) rfl ⟨rfl, (Below.refl _ _).alloc (Nat.le_refl _) _⟩

set_option maxRecDepth 100000 in
set_option maxHeartbeats 1600000 in
theorem next_more (sb : Nat) (ca : Option Addr) (n cc : Nat) (mode : Int) (tb tc : Nat) (rv qv : Nat → Value) (wv ov pv : Value) (s : Sx) (A : Nat → Option Addr) (L C : Nat → Nat) (X : Nat → Nat → Nat → Int) (hn : s.ths.length = n) (t : Nat) (ht : t < n) (_hN : n ≤ 4) (_hL : L t ≤ 400) (hend : (thOf s t).pc < L t) (w : World) (hs : SIn w sb ca n cc mode tb tc rv qv wv ov pv s) (hp : PIn w ca n A L C X) :
    Calls Tryz.prog 80 #[.pointer (some ⟨sb, 0, none⟩), .int .i64 t] w fun e w' => e = .returned (.tuple #[.agg #[.int .i64 (opT X s t 0), .int .i64 (opT X s t 1), .int .i64 (opT X s t 2), .int .i64 (opT X s t 3)], .bool true]) ∧ Below w.heap.size w w' := by
  obtain ⟨cb, co, rfl, hcell⟩ := hp.code t ht
  have h0 := cell_up hs.code
  have h5 := cell_up hs.ths
  have hpcc := cell_up (hs.pc t (by omega))
  have hcc := cell_up hcell
  simp only [hn] at h5
  unfold opT
  obtain ⟨k, hk⟩ : ∃ k, (thOf s t).pc = k := ⟨_, rfl⟩
  simp only [hk] at hpcc hend ⊢
  obtain ⟨ob, oo, hA, x0, x1, x2, x3⟩ := hp.ord t k ht hend
  rw [hA] at hcc
  have y0 := cell_up x0
  have y1 := cell_up x1
  have y2 := cell_up x2
  have y3 := cell_up x3
  obtain ⟨v0, e0⟩ : ∃ v, X t k 0 = v := ⟨_, rfl⟩
  obtain ⟨v1, e1⟩ : ∃ v, X t k 1 = v := ⟨_, rfl⟩
  obtain ⟨v2, e2⟩ : ∃ v, X t k 2 = v := ⟨_, rfl⟩
  obtain ⟨v3, e3⟩ : ∃ v, X t k 3 = v := ⟨_, rfl⟩
  simp only [e0] at y0 ⊢
  simp only [e1] at y1 ⊢
  simp only [e2] at y2 ⊢
  simp only [e3] at y3 ⊢
  go_enter Tryz.func80, Tryz.ntmps80
  go_wp2
  refine bodyPost_ret (v := .tuple #[.agg #[.int .i64 v0, .int .i64 v1, .int .i64 v2, .int .i64 v3], .bool true]) (by simp [results, Tryz.results80, go_sem]) rfl ⟨rfl, (Below.refl _ _).alloc (Nat.le_refl _) _⟩

theorem SIn.below {w w' : World} {sb : Nat} {ca : Option Addr} {n cc : Nat} {mode : Int} {tb tc : Nat} {rv qv : Nat → Value} {wv ov pv : Value} {s : Sx} (h : SIn w sb ca n cc mode tb tc rv qv wv ov pv s) (hb : Below w.heap.size w w') : SIn w' sb ca n cc mode tb tc rv qv wv ov pv s :=
  ⟨(hb.cell (lt_of_cell h.code)).trans h.code, (hb.cell (lt_of_cell h.mode)).trans h.mode, (hb.cell (lt_of_cell h.ths)).trans h.ths, (hb.cell (lt_of_cell h.words)).trans h.words, (hb.cell (lt_of_cell h.own)).trans h.own, (hb.cell (lt_of_cell h.prints)).trans h.prints, (hb.cell (lt_of_cell h.fell)).trans h.fell,
    fun t ht => (hb.cell (lt_of_cell (h.pc t ht))).trans (h.pc t ht), fun t ht => (hb.cell (lt_of_cell (h.regs t ht))).trans (h.regs t ht), fun t ht => (hb.cell (lt_of_cell (h.wait t ht))).trans (h.wait t ht)⟩
end

end Go.Proofs.YtipdnfpomdcenabGreatDoor
