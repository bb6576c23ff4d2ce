/-
  What chapter 1 says of a program's orders, as plain functions of numbers: which kinds of numbers an order has, whether a number may be, what is the first thing that is wrong.
-/
import Derived.Test.YtocfocjnnjdcgaaDoorBase
namespace Go.Proofs.YtocfocjnnjdcgaaDoor

/-- An order's three kinds of numbers: 0 nothing, 1 a register, 2 a word, 3 a lock, 4 a place, 5 any number. -/
def kd (op : Int) : Option (Int × Int × Int) :=
  if op = 1 then some (1, 5, 0) else if op = 2 then some (1, 1, 0) else if op = 3 then some (1, 1, 1) else if op = 4 then some (1, 1, 1)
  else if op = 5 then some (1, 1, 1) else if op = 6 then some (1, 1, 1) else if op = 7 then some (1, 1, 1) else if op = 8 then some (1, 2, 0)
  else if op = 9 then some (2, 1, 0) else if op = 10 then some (1, 1, 0) else if op = 11 then some (1, 1, 0) else if op = 12 then some (0, 0, 0)
  else if op = 13 then some (2, 1, 1) else if op = 14 then some (4, 0, 0) else if op = 15 then some (1, 4, 0) else if op = 16 then some (1, 0, 0)
  else if op = 17 then some (3, 0, 0) else if op = 18 then some (3, 0, 0) else none

/-- The least number from 0 on that is too great. -/
def lim (rg wd lk sz k : Int) : Int :=
  if k = 0 then 1 else if k = 1 then rg else if k = 2 then wd else if k = 3 then lk else if k = 4 then sz + 1 else 0

def okN (rg wd lk sz k n : Int) : Bool := (k == 5) || (decide (0 ≤ n) && decide (n < lim rg wd lk sz k))

/-- What is wrong with an order: 0 nothing, 2 there is none, 3 a number. -/
def ordE (rg wd lk sz op a b c : Int) : Int :=
  match kd op with
  | none => 2
  | some (x, y, z) => if okN rg wd lk sz x a && okN rg wd lk sz y b && okN rg wd lk sz z c then 0 else 3

/-- The first of f indices from k on at which E is not 0. -/
def firstBad (E : Nat → Int) : Nat → Nat → Option (Int × Int)
  | 0, _ => none
  | f + 1, k => if E k = 0 then firstBad E f (k + 1) else some (E k, k)

theorem firstBad_step {E : Nat → Int} {n k : Nat} (h : k < n) (h0 : E k = 0) : firstBad E (n - k) k = firstBad E (n - (k + 1)) (k + 1) := by
  obtain ⟨f, hf⟩ : ∃ f, n - k = f + 1 := ⟨n - k - 1, by omega⟩
  rw [hf, show n - (k + 1) = f by omega, firstBad, if_pos h0]
theorem firstBad_hit {E : Nat → Int} {n k : Nat} (h : k < n) (h0 : E k ≠ 0) : firstBad E (n - k) k = some (E k, (k : Int)) := by
  obtain ⟨f, hf⟩ : ∃ f, n - k = f + 1 := ⟨n - k - 1, by omega⟩
  rw [hf, firstBad, if_neg h0]
theorem firstBad_end {E : Nat → Int} {n k : Nat} (h : n ≤ k) : firstBad E (n - k) k = none := by
  rw [show n - k = 0 by omega, firstBad]

/-- The first thread at which R tells something. -/
def firstThread (R : Nat → Option (Int × Int)) : Nat → Nat → Int × Int × Int
  | 0, _ => (0, 0, 0)
  | f + 1, k => match R k with
    | none => firstThread R f (k + 1)
    | some (c, a) => (c, k, a)

theorem firstThread_step {R : Nat → Option (Int × Int)} {n k : Nat} (h : k < n) (h0 : R k = none) : firstThread R (n - k) k = firstThread R (n - (k + 1)) (k + 1) := by
  obtain ⟨f, hf⟩ : ∃ f, n - k = f + 1 := ⟨n - k - 1, by omega⟩
  rw [hf, show n - (k + 1) = f by omega, firstThread, h0]
theorem firstThread_hit {R : Nat → Option (Int × Int)} {n k : Nat} {c a : Int} (h : k < n) (h0 : R k = some (c, a)) : firstThread R (n - k) k = (c, (k : Int), a) := by
  obtain ⟨f, hf⟩ : ∃ f, n - k = f + 1 := ⟨n - k - 1, by omega⟩
  rw [hf, firstThread, h0]
theorem firstThread_end {R : Nat → Option (Int × Int)} {n k : Nat} (h : n ≤ k) : firstThread R (n - k) k = (0, 0, 0) := by
  rw [show n - k = 0 by omega, firstThread]

/-- One thread: too long, or its first order that is wrong. 'X t i j': of thread t, order i, number j (0: what it does). -/
def thr (rg wd lk : Int) (L : Nat → Nat) (X : Nat → Nat → Nat → Int) (t : Nat) : Option (Int × Int) :=
  if 400 < L t then some (1, 0) else firstBad (fun i => ordE rg wd lk (L t) (X t i 0) (X t i 1) (X t i 2) (X t i 3)) (L t) 0

/-- What is wrong with the sizes: 0 nothing, 1 too many, 3 a number. -/
def sizesE (n m : Nat) (lk rg : Int) : Int :=
  if (n : Int) < 1 ∨ 4 < (n : Int) ∨ 64 < (m : Int) then 1 else if lk < 0 ∨ 4 < lk ∨ rg < 1 ∨ 200 < rg then 3 else 0

/-- A2. -/
def chk (n : Nat) (L : Nat → Nat) (X : Nat → Nat → Nat → Int) (m : Nat) (lk rg : Int) : Int × Int × Int :=
  if sizesE n m lk rg ≠ 0 then (sizesE n m lk rg, 0, 0) else firstThread (thr rg m lk L X) n 0

end Go.Proofs.YtocfocjnnjdcgaaDoor
