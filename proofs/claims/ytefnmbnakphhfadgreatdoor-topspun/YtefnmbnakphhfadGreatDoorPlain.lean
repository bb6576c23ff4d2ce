/-
  What chapter 1 says of a program's orders, as plain functions of numbers: which kinds of numbers an order has, whether a number may be, what is the first thing that is wrong.
  What the small functions of chapter 1 do, of the program and of the document's answer: sizes, limits, numbers, whether a number may be.
  What the document says of runs, as plain functions: what waits, the state of a run, what can be picked, what a move does, a run's trace.
-/
import Derived.Test.YtefnmbnakphhfadGreatDoorRows
import Derived.WalkKit
import Derived.WalkSpells
import Derived.WalkLawsBesides
namespace Go.Proofs.YtefnmbnakphhfadGreatDoor
section
/-- An order's three kinds of numbers: 0 nothing, 1 a register, 2 a word, 3 a lock, 4 a place, 5 any number. -/
def kd (op : Int) : Option (Int × Int × Int) :=
  if op = 1 then some (1, 5, 0) else if op = 2 then some (1, 1, 0) else if op = 3 then some (1, 1, 1) else if op = 4 then some (1, 1, 1)
  else if op = 5 then some (1, 1, 1) else if op = 6 then some (1, 1, 1) else if op = 7 then some (1, 1, 1) else if op = 8 then some (1, 2, 0)
  else if op = 9 then some (2, 1, 0) else if op = 10 then some (1, 1, 0) else if op = 11 then some (1, 1, 0) else if op = 12 then some (0, 0, 0)
  else if op = 13 then some (2, 1, 1) else if op = 14 then some (4, 0, 0) else if op = 15 then some (1, 4, 0) else if op = 16 then some (1, 0, 0)
  else if op = 17 then some (3, 0, 0) else if op = 18 then some (3, 0, 0) else none

/-- The least number from 0 on that is too great. -/
def lim (rg wd lk sz k : Int) : Int :=
  if k = 0 then 1 else if k = 1 then rg else if k = 2 then wd else if k = 3 then lk else if k = 4 then sz + 1 else 0

def okN (rg wd lk sz k n : Int) : Bool := (k == 5) || (decide (0 ≤ n) && decide (n < lim rg wd lk sz k))

/-- What is wrong with an order: 0 nothing, 2 there is none, 3 a number. -/
def ordE (rg wd lk sz op a b c : Int) : Int :=
  match kd op with
  | none => 2
  | some (x, y, z) => if okN rg wd lk sz x a && okN rg wd lk sz y b && okN rg wd lk sz z c then 0 else 3

/-- The first of f indices from k on at which E is not 0. -/
def firstBad (E : Nat → Int) : Nat → Nat → Option (Int × Int)
  | 0, _ => none
  | f + 1, k => if E k = 0 then firstBad E f (k + 1) else some (E k, k)

theorem firstBad_step {E : Nat → Int} {n k : Nat} (h : k < n) (h0 : E k = 0) : firstBad E (n - k) k = firstBad E (n - (k + 1)) (k + 1) := by
  obtain ⟨f, hf⟩ : ∃ f, n - k = f + 1 := ⟨n - k - 1, by omega⟩
  rw [hf, show n - (k + 1) = f by omega, firstBad, if_pos h0]
theorem firstBad_hit {E : Nat → Int} {n k : Nat} (h : k < n) (h0 : E k ≠ 0) : firstBad E (n - k) k = some (E k, (k : Int)) := by
  obtain ⟨f, hf⟩ : ∃ f, n - k = f + 1 := ⟨n - k - 1, by omega⟩
  rw [hf, firstBad, if_neg h0]
theorem firstBad_end {E : Nat → Int} {n k : Nat} (h : n ≤ k) : firstBad E (n - k) k = none := by
  rw [show n - k = 0 by omega, firstBad]

/-- The first thread at which R tells something. -/
def firstThread (R : Nat → Option (Int × Int)) : Nat → Nat → Int × Int × Int
  | 0, _ => (0, 0, 0)
  | f + 1, k => match R k with
    | none => firstThread R f (k + 1)
    | some (c, a) => (c, k, a)

theorem firstThread_step {R : Nat → Option (Int × Int)} {n k : Nat} (h : k < n) (h0 : R k = none) : firstThread R (n - k) k = firstThread R (n - (k + 1)) (k + 1) := by
  obtain ⟨f, hf⟩ : ∃ f, n - k = f + 1 := ⟨n - k - 1, by omega⟩
  rw [hf, show n - (k + 1) = f by omega, firstThread, h0]
theorem firstThread_hit {R : Nat → Option (Int × Int)} {n k : Nat} {c a : Int} (h : k < n) (h0 : R k = some (c, a)) : firstThread R (n - k) k = (c, (k : Int), a) := by
  obtain ⟨f, hf⟩ : ∃ f, n - k = f + 1 := ⟨n - k - 1, by omega⟩
  rw [hf, firstThread, h0]
theorem firstThread_end {R : Nat → Option (Int × Int)} {n k : Nat} (h : n ≤ k) : firstThread R (n - k) k = (0, 0, 0) := by
  rw [show n - k = 0 by omega, firstThread]

/-- One thread: too long, or its first order that is wrong. 'X t i j': of thread t, order i, number j (0: what it does). -/
def thr (rg wd lk : Int) (L : Nat → Nat) (X : Nat → Nat → Nat → Int) (t : Nat) : Option (Int × Int) :=
  if 400 < L t then some (1, 0) else firstBad (fun i => ordE rg wd lk (L t) (X t i 0) (X t i 1) (X t i 2) (X t i 3)) (L t) 0

/-- What is wrong with the sizes: 0 nothing, 1 too many, 3 a number. -/
def sizesE (n m : Nat) (lk rg : Int) : Int :=
  if (n : Int) < 1 ∨ 4 < (n : Int) ∨ 64 < (m : Int) then 1 else if lk < 0 ∨ 4 < lk ∨ rg < 1 ∨ 200 < rg then 3 else 0

/-- A2. -/
def chk (n : Nat) (L : Nat → Nat) (X : Nat → Nat → Nat → Int) (m : Nat) (lk rg : Int) : Int × Int × Int :=
  if sizesE n m lk rg ≠ 0 then (sizesE n m lk rg, 0, 0) else firstThread (thr rg m lk L X) n 0
end

section
open Go.RowKit

/-- A program as a value. -/
abbrev prgV (ca : Option Addr) (n cc : Nat) (wa : Option Addr) (m wc : Nat) (lk rg : Int) : Value := .agg #[.slice ca n cc, .slice wa m wc, .int .i64 lk, .int .i64 rg]
abbrev ints3 (a b c : Int) : Value := .agg #[.int .i64 a, .int .i64 b, .int .i64 c]
abbrev ints4 (a b c d : Int) : Value := .agg #[.int .i64 a, .int .i64 b, .int .i64 c, .int .i64 d]
abbrev ints6 (a b c d e f : Int) : Value := .agg #[.int .i64 a, .int .i64 b, .int .i64 c, .int .i64 d, .int .i64 e, .int .i64 f]

theorem ret_int {k : IntKind} {a b : Int} (h : a = b) : Ending.returned (.int k a) = .returned (.int k b) := by rw [h]
theorem ret_bool {a b : Bool} (h : a = b) : Ending.returned (.bool a) = .returned (.bool b) := by rw [h]

set_option maxHeartbeats 400000 in
theorem checkSizes_any (ca : Option Addr) (n cc : Nat) (wa : Option Addr) (m wc : Nat) (lk rg : Int) (w : World) :
    Calls Tryz.prog 34 #[prgV ca n cc wa m wc lk rg] w fun e w' => e = .returned (.int .i64 (sizesE n m lk rg)) ∧ Below w.heap.size w w' := by
  go_enter Tryz.func34, Tryz.ntmps34
  go_wp2
  all_goals go_ret
  all_goals refine ⟨ret_int ?_, (Below.refl _ _).alloc (Nat.le_refl _) _⟩
  all_goals (unfold sizesE)
  all_goals (split <;> first | omega | (split <;> omega))

set_option maxHeartbeats 400000 in
theorem limitsOf_any (ca : Option Addr) (n cc : Nat) (wa : Option Addr) (m wc : Nat) (lk rg : Int) (a : Option Addr) (l c : Nat) (hl : l ≤ 400) (w : World) :
    Calls Tryz.prog 36 #[prgV ca n cc wa m wc lk rg, .slice a l c] w fun e w' => e = .returned (ints6 1 rg m lk (l + 1) 0) ∧ Below w.heap.size w w' := by
  go_enter Tryz.func36, Tryz.ntmps36
  go_wp2
  exact bodyPost_ret (v := ints6 1 rg m lk (l + 1) 0) (by simp [results, Tryz.results36, go_sem]) rfl ⟨rfl, ((Below.refl _ _).alloc (Nat.le_refl _) _).alloc (by simp) _⟩

set_option maxHeartbeats 400000 in
theorem numbersOf_any (op x y z : Int) (w : World) :
    Calls Tryz.prog 58 #[ints4 op x y z] w fun e w' => e = .returned (ints3 x y z) ∧ Below w.heap.size w w' := by
  go_enter Tryz.func58, Tryz.ntmps58
  go_wp2
  exact bodyPost_ret (v := ints3 x y z) (by simp [results, Tryz.results58, go_sem]) rfl ⟨rfl, ((Below.refl _ _).alloc (Nat.le_refl _) _).alloc (by simp) _⟩

set_option maxHeartbeats 800000 in
theorem allow_any (rg wd lk sz k n : Int) (hk : 0 ≤ k ∧ k ≤ 5) (w : World) :
    Calls Tryz.prog 59 #[ints6 1 rg wd lk (sz + 1) 0, .int .i64 k, .int .i64 n] w fun e w' => e = .returned (.bool (okN rg wd lk sz k n)) ∧ Below w.heap.size w w' := by
  rcases (by omega : k = 0 ∨ k = 1 ∨ k = 2 ∨ k = 3 ∨ k = 4 ∨ k = 5) with rfl | rfl | rfl | rfl | rfl | rfl
  all_goals
    go_enter Tryz.func59, Tryz.ntmps59
    go_wp2
    all_goals go_ret
    all_goals refine ⟨ret_bool ?_, (Below.refl _ _).alloc (Nat.le_refl _) _⟩
    all_goals (simp [okN, lim] <;> omega)

/-- An order's name. -/
def nm (op : Int) : ByteArray :=
  if op = 1 then ⟨#[99, 111, 110, 115, 116]⟩
  else if op = 2 then ⟨#[109, 111, 118, 101]⟩
  else if op = 3 then ⟨#[97, 100, 100]⟩
  else if op = 4 then ⟨#[115, 117, 98]⟩
  else if op = 5 then ⟨#[109, 117, 108]⟩
  else if op = 6 then ⟨#[108, 101, 115, 115]⟩
  else if op = 7 then ⟨#[115, 97, 109, 101]⟩
  else if op = 8 then ⟨#[108, 111, 97, 100]⟩
  else if op = 9 then ⟨#[115, 116, 111, 114, 101]⟩
  else if op = 10 then ⟨#[108, 111, 97, 100, 97, 116]⟩
  else if op = 11 then ⟨#[115, 116, 111, 114, 101, 97, 116]⟩
  else if op = 12 then ⟨#[102, 101, 110, 99, 101]⟩
  else if op = 13 then ⟨#[99, 97, 115]⟩
  else if op = 14 then ⟨#[106, 117, 109, 112]⟩
  else if op = 15 then ⟨#[122, 101, 114, 111]⟩
  else if op = 16 then ⟨#[112, 114, 105, 110, 116]⟩
  else if op = 17 then ⟨#[108, 111, 99, 107]⟩
  else if op = 18 then ⟨#[117, 110, 108, 111, 99, 107]⟩
  else ⟨#[]⟩
/-- An order's kinds, in the document's letters. -/
def ks (op : Int) : ByteArray :=
  if op = 1 then ⟨#[114, 110]⟩
  else if op = 2 then ⟨#[114, 114]⟩
  else if op = 3 then ⟨#[114, 114, 114]⟩
  else if op = 4 then ⟨#[114, 114, 114]⟩
  else if op = 5 then ⟨#[114, 114, 114]⟩
  else if op = 6 then ⟨#[114, 114, 114]⟩
  else if op = 7 then ⟨#[114, 114, 114]⟩
  else if op = 8 then ⟨#[114, 119]⟩
  else if op = 9 then ⟨#[119, 114]⟩
  else if op = 10 then ⟨#[114, 114]⟩
  else if op = 11 then ⟨#[114, 114]⟩
  else if op = 12 then ⟨#[]⟩
  else if op = 13 then ⟨#[119, 114, 114]⟩
  else if op = 14 then ⟨#[99]⟩
  else if op = 15 then ⟨#[114, 99]⟩
  else if op = 16 then ⟨#[114]⟩
  else if op = 17 then ⟨#[108]⟩
  else if op = 18 then ⟨#[108]⟩
  else ⟨#[]⟩

theorem op_cases (op : Int) : (op < 1 ∨ 18 < op) ∨ op = 1 ∨ op = 2 ∨ op = 3 ∨ op = 4 ∨ op = 5 ∨ op = 6 ∨ op = 7 ∨ op = 8 ∨ op = 9 ∨ op = 10 ∨ op = 11 ∨ op = 12 ∨ op = 13 ∨ op = 14 ∨ op = 15 ∨ op = 16 ∨ op = 17 ∨ op = 18 := by omega
theorem kd_out {op : Int} (h : op < 1 ∨ 18 < op) : kd op = none := by
  unfold kd; repeat rw [if_neg (by omega)]
end

section
open Go.RowKit

/-- What waits: a store into a word, or that a lock becomes free. -/
structure Wt where
  lk : Bool
  wh : Int
  what : Int
deriving DecidableEq, Inhabited
/-- A thread of a run. -/
structure Th where
  pc : Nat
  regs : List Int
  wait : List Wt
deriving DecidableEq, Inhabited
/-- The state of a run. -/
structure Sx where
  ths : List Th
  words : List Int
  own : List Int
  prints : List Int
  fell : Bool
deriving DecidableEq, Inhabited

section
variable (L : Nat → Nat) (X : Nat → Nat → Nat → Int)

def thOf (s : Sx) (t : Nat) : Th := s.ths.getD t default
def endedT (s : Sx) (t : Nat) : Bool := decide (L t ≤ (thOf s t).pc)
def opT (s : Sx) (t q : Nat) : Int := X t (thOf s t).pc q
/-- Is a thread able to do its next order? -/
def ableT (s : Sx) (t : Nat) : Bool :=
  if endedT L s t then false
  else
    let k := (thOf s t).wait.length
    let op := opT X s t 0
    if op = 9 ∨ op = 11 ∨ op = 18 then decide (k < 3)
    else if op = 12 ∨ op = 13 then decide (k = 0)
    else if op = 17 then decide (k = 0) && decide (s.own.getD (opT X s t 1).toNat 0 = -1)
    else true
/-- May the k-th one that waits be done? -/
def mayW (mode : Int) (l : List Wt) (k : Nat) : Bool :=
  if k = 0 then true
  else if mode = 1 ∨ (l.getD k default).lk = true then false
  else (l.take k).all fun x => !(x.lk || decide (x.wh = (l.getD k default).wh))
/-- What can be picked. -/
def movesT (mode : Int) (s : Sx) (t : Nat) : List Int :=
  (if ableT L X s t then [8 * (t : Int)] else []) ++ ((List.range (thOf s t).wait.length).filter (fun k => mayW mode (thOf s t).wait k)).map fun (k : Nat) => 8 * (t : Int) + (k : Int) + 1
def movesX (mode : Int) (s : Sx) : List Int := (List.range s.ths.length).flatMap fun t => movesT L X mode s t
def endedX (s : Sx) : Bool := (List.range s.ths.length).all fun t => endedT L s t && (thOf s t).wait.isEmpty
def setTh (s : Sx) (t : Nat) (x : Th) : Sx := { s with ths := s.ths.set t x }
/-- One that waited is done. -/
def doneW (s : Sx) (x : Wt) : Sx := if x.lk then { s with own := s.own.set x.wh.toNat (-1) } else { s with words := s.words.set x.wh.toNat x.what }
def storeW (mode : Int) (s : Sx) (t : Nat) (x : Wt) : Sx :=
  if 0 < mode then setTh s t { thOf s t with wait := (thOf s t).wait ++ [x] } else doneW s x
/-- What a thread finds in a word. -/
def findsW (s : Sx) (t : Nat) (wd : Int) : Int :=
  match (thOf s t).wait.reverse.find? fun x => !x.lk && decide (x.wh = wd) with
  | some x => x.what
  | none => s.words.getD wd.toNat 0
def setR (s : Sx) (t : Nat) (r v : Int) : Sx := setTh s t { thOf s t with regs := (thOf s t).regs.set r.toNat v }
def getR (s : Sx) (t : Nat) (r : Int) : Int := (thOf s t).regs.getD r.toNat 0
def bitI (b : Bool) : Int := if b then 1 else 0
def fallX (s : Sx) : Sx := { s with fell := true }
/-- A thread's order op, with its numbers a, b, c; the thread stands behind it already. -/
def orderX (mode : Int) (s : Sx) (t : Nat) (op a b c : Int) : Sx :=
  if op = 1 then setR s t a b
  else if op = 2 then setR s t a (getR s t b)
  else if op = 3 then setR s t a (IntKind.i64.wrap (getR s t b + getR s t c))
  else if op = 4 then setR s t a (IntKind.i64.wrap (getR s t b - getR s t c))
  else if op = 5 then setR s t a (IntKind.i64.wrap (getR s t b * getR s t c))
  else if op = 6 then setR s t a (bitI (decide (getR s t b < getR s t c)))
  else if op = 7 then setR s t a (bitI (decide (getR s t b = getR s t c)))
  else if op = 8 then setR s t a (findsW s t b)
  else if op = 9 then storeW mode s t ⟨false, a, getR s t b⟩
  else if op = 10 then (if getR s t b < 0 ∨ (s.words.length : Int) ≤ getR s t b then fallX s else setR s t a (findsW s t (getR s t b)))
  else if op = 11 then (if getR s t a < 0 ∨ (s.words.length : Int) ≤ getR s t a then fallX s else storeW mode s t ⟨false, getR s t a, getR s t b⟩)
  else if op = 13 then (if s.words.getD a.toNat 0 = getR s t b then setR { s with words := s.words.set a.toNat (getR s t c) } t b 1 else setR s t b 0)
  else if op = 14 then setTh s t { thOf s t with pc := a.toNat }
  else if op = 15 then (if getR s t a = 0 then setTh s t { thOf s t with pc := b.toNat } else s)
  else if op = 16 then { s with prints := s.prints ++ [(t : Int), getR s t a] }
  else if op = 17 then { s with own := s.own.set a.toNat t }
  else if op = 18 then (if s.own.getD a.toNat 0 ≠ t ∨ ((thOf s t).wait.any fun x => x.lk && decide (x.wh = a)) = true then fallX s else storeW mode s t ⟨true, a, 0⟩)
  else s
/-- A move: eight times a thread's number: its order; k more: the k-th one that waits. -/
def doX (mode : Int) (s : Sx) (mv : Nat) : Sx :=
  let t := mv / 8
  let k := mv % 8
  if 0 < k then
    let s' := doneW s ((thOf s t).wait.getD (k - 1) default)
    setTh s' t { thOf s' t with wait := (thOf s' t).wait.eraseIdx (k - 1) }
  else
    let pc := (thOf s t).pc
    orderX mode (setTh s t { thOf s t with pc := pc + 1 }) t (X t pc 0) (X t pc 1) (X t pc 2) (X t pc 3)
end
/-- The state ahead of the first step. -/
def beginX (n : Nat) (words : List Int) (lk rg : Int) : Sx :=
  { ths := List.replicate n { pc := 0, regs := List.replicate rg.toNat 0, wait := [] }, words := words, own := List.replicate lk.toNat (-1), prints := [], fell := false }
end

end Go.Proofs.YtefnmbnakphhfadGreatDoor
