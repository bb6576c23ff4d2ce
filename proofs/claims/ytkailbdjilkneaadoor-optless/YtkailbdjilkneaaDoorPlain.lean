/-
  What chapter 1 says of a program's orders, as plain functions of numbers: which kinds of numbers an order has, whether a number may be, what is the first thing that is wrong.
  What the small functions of chapter 1 do, of the program and of the document's answer: sizes, limits, numbers, whether a number may be.
-/
import Derived.Test.YtkailbdjilkneaaDoorBase
import Derived.WalkKit
import Derived.WalkSpells
import Derived.WalkLawsBesides
namespace Go.Proofs.YtkailbdjilkneaaDoor
section
/-- An order's three kinds of numbers: 0 nothing, 1 a register, 2 a word, 3 a lock, 4 a place, 5 any number. -/
def kd (op : Int) : Option (Int × Int × Int) :=
  if op = 1 then some (1, 5, 0) else if op = 2 then some (1, 1, 0) else if op = 3 then some (1, 1, 1) else if op = 4 then some (1, 1, 1)
  else if op = 5 then some (1, 1, 1) else if op = 6 then some (1, 1, 1) else if op = 7 then some (1, 1, 1) else if op = 8 then some (1, 2, 0)
  else if op = 9 then some (2, 1, 0) else if op = 10 then some (1, 1, 0) else if op = 11 then some (1, 1, 0) else if op = 12 then some (0, 0, 0)
  else if op = 13 then some (2, 1, 1) else if op = 14 then some (4, 0, 0) else if op = 15 then some (1, 4, 0) else if op = 16 then some (1, 0, 0)
  else if op = 17 then some (3, 0, 0) else if op = 18 then some (3, 0, 0) else none

/-- The least number from 0 on that is too great. -/
def lim (rg wd lk sz k : Int) : Int :=
  if k = 0 then 1 else if k = 1 then rg else if k = 2 then wd else if k = 3 then lk else if k = 4 then sz + 1 else 0

def okN (rg wd lk sz k n : Int) : Bool := (k == 5) || (decide (0 ≤ n) && decide (n < lim rg wd lk sz k))

/-- What is wrong with an order: 0 nothing, 2 there is none, 3 a number. -/
def ordE (rg wd lk sz op a b c : Int) : Int :=
  match kd op with
  | none => 2
  | some (x, y, z) => if okN rg wd lk sz x a && okN rg wd lk sz y b && okN rg wd lk sz z c then 0 else 3

/-- The first of f indices from k on at which E is not 0. -/
def firstBad (E : Nat → Int) : Nat → Nat → Option (Int × Int)
  | 0, _ => none
  | f + 1, k => if E k = 0 then firstBad E f (k + 1) else some (E k, k)

theorem firstBad_step {E : Nat → Int} {n k : Nat} (h : k < n) (h0 : E k = 0) : firstBad E (n - k) k = firstBad E (n - (k + 1)) (k + 1) := by
  obtain ⟨f, hf⟩ : ∃ f, n - k = f + 1 := ⟨n - k - 1, by omega⟩
  rw [hf, show n - (k + 1) = f by omega, firstBad, if_pos h0]
theorem firstBad_hit {E : Nat → Int} {n k : Nat} (h : k < n) (h0 : E k ≠ 0) : firstBad E (n - k) k = some (E k, (k : Int)) := by
  obtain ⟨f, hf⟩ : ∃ f, n - k = f + 1 := ⟨n - k - 1, by omega⟩
  rw [hf, firstBad, if_neg h0]
theorem firstBad_end {E : Nat → Int} {n k : Nat} (h : n ≤ k) : firstBad E (n - k) k = none := by
  rw [show n - k = 0 by omega, firstBad]

/-- The first thread at which R tells something. -/
def firstThread (R : Nat → Option (Int × Int)) : Nat → Nat → Int × Int × Int
  | 0, _ => (0, 0, 0)
  | f + 1, k => match R k with
    | none => firstThread R f (k + 1)
    | some (c, a) => (c, k, a)

theorem firstThread_step {R : Nat → Option (Int × Int)} {n k : Nat} (h : k < n) (h0 : R k = none) : firstThread R (n - k) k = firstThread R (n - (k + 1)) (k + 1) := by
  obtain ⟨f, hf⟩ : ∃ f, n - k = f + 1 := ⟨n - k - 1, by omega⟩
  rw [hf, show n - (k + 1) = f by omega, firstThread, h0]
theorem firstThread_hit {R : Nat → Option (Int × Int)} {n k : Nat} {c a : Int} (h : k < n) (h0 : R k = some (c, a)) : firstThread R (n - k) k = (c, (k : Int), a) := by
  obtain ⟨f, hf⟩ : ∃ f, n - k = f + 1 := ⟨n - k - 1, by omega⟩
  rw [hf, firstThread, h0]
theorem firstThread_end {R : Nat → Option (Int × Int)} {n k : Nat} (h : n ≤ k) : firstThread R (n - k) k = (0, 0, 0) := by
  rw [show n - k = 0 by omega, firstThread]

/-- One thread: too long, or its first order that is wrong. 'X t i j': of thread t, order i, number j (0: what it does). -/
def thr (rg wd lk : Int) (L : Nat → Nat) (X : Nat → Nat → Nat → Int) (t : Nat) : Option (Int × Int) :=
  if 400 < L t then some (1, 0) else firstBad (fun i => ordE rg wd lk (L t) (X t i 0) (X t i 1) (X t i 2) (X t i 3)) (L t) 0

/-- What is wrong with the sizes: 0 nothing, 1 too many, 3 a number. -/
def sizesE (n m : Nat) (lk rg : Int) : Int :=
  if (n : Int) < 1 ∨ 4 < (n : Int) ∨ 64 < (m : Int) then 1 else if lk < 0 ∨ 4 < lk ∨ rg < 1 ∨ 200 < rg then 3 else 0

/-- A2. -/
def chk (n : Nat) (L : Nat → Nat) (X : Nat → Nat → Nat → Int) (m : Nat) (lk rg : Int) : Int × Int × Int :=
  if sizesE n m lk rg ≠ 0 then (sizesE n m lk rg, 0, 0) else firstThread (thr rg m lk L X) n 0
end

section
open Go.RowKit

/-- A program as a value. -/
abbrev prgV (ca : Option Addr) (n cc : Nat) (wa : Option Addr) (m wc : Nat) (lk rg : Int) : Value := .agg #[.slice ca n cc, .slice wa m wc, .int .i64 lk, .int .i64 rg]
abbrev ints3 (a b c : Int) : Value := .agg #[.int .i64 a, .int .i64 b, .int .i64 c]
abbrev ints4 (a b c d : Int) : Value := .agg #[.int .i64 a, .int .i64 b, .int .i64 c, .int .i64 d]
abbrev ints6 (a b c d e f : Int) : Value := .agg #[.int .i64 a, .int .i64 b, .int .i64 c, .int .i64 d, .int .i64 e, .int .i64 f]

set_option maxHeartbeats 400000 in
theorem checkSizes_any (ca : Option Addr) (n cc : Nat) (wa : Option Addr) (m wc : Nat) (lk rg : Int) (w : World) :
    Calls Tryd.prog 54 #[prgV ca n cc wa m wc lk rg] w fun e w' => e = .returned (.int .i64 (sizesE n m lk rg)) ∧ Below w.heap.size w w' := by
  go_enter Tryd.func54, Tryd.ntmps54
  go_wp2
  all_goals go_ret
  all_goals refine ⟨ret_int ?_, (Below.refl _ _).alloc (Nat.le_refl _) _⟩
  all_goals (unfold sizesE)
  all_goals (split <;> first | omega | (split <;> omega))

set_option maxHeartbeats 400000 in
theorem limitsOf_any (ca : Option Addr) (n cc : Nat) (wa : Option Addr) (m wc : Nat) (lk rg : Int) (a : Option Addr) (l c : Nat) (hl : l ≤ 400) (w : World) :
    Calls Tryd.prog 56 #[prgV ca n cc wa m wc lk rg, .slice a l c] w fun e w' => e = .returned (ints6 1 rg m lk (l + 1) 0) ∧ Below w.heap.size w w' := by
  go_enter Tryd.func56, Tryd.ntmps56
  go_wp2
  exact bodyPost_ret (v := ints6 1 rg m lk (l + 1) 0) (by simp [results, Tryd.results56, go_sem]) rfl ⟨rfl, ((Below.refl _ _).alloc (Nat.le_refl _) _).alloc (by simp) _⟩

set_option maxHeartbeats 400000 in
theorem numbersOf_any (op x y z : Int) (w : World) :
    Calls Tryd.prog 98 #[ints4 op x y z] w fun e w' => e = .returned (ints3 x y z) ∧ Below w.heap.size w w' := by
  go_enter Tryd.func98, Tryd.ntmps98
  go_wp2
  exact bodyPost_ret (v := ints3 x y z) (by simp [results, Tryd.results98, go_sem]) rfl ⟨rfl, ((Below.refl _ _).alloc (Nat.le_refl _) _).alloc (by simp) _⟩

set_option maxHeartbeats 800000 in
theorem allow_any (rg wd lk sz k n : Int) (hk : 0 ≤ k ∧ k ≤ 5) (w : World) :
    Calls Tryd.prog 99 #[ints6 1 rg wd lk (sz + 1) 0, .int .i64 k, .int .i64 n] w fun e w' => e = .returned (.bool (okN rg wd lk sz k n)) ∧ Below w.heap.size w w' := by
  rcases (by omega : k = 0 ∨ k = 1 ∨ k = 2 ∨ k = 3 ∨ k = 4 ∨ k = 5) with rfl | rfl | rfl | rfl | rfl | rfl
  all_goals
    go_enter Tryd.func99, Tryd.ntmps99
    go_wp2
    all_goals go_ret
    all_goals refine ⟨ret_bool ?_, (Below.refl _ _).alloc (Nat.le_refl _) _⟩
    all_goals (simp [okN, lim] <;> omega)

/-- An order's name. -/
def nm (op : Int) : ByteArray :=
  if op = 1 then ⟨#[99, 111, 110, 115, 116]⟩
  else if op = 2 then ⟨#[109, 111, 118, 101]⟩
  else if op = 3 then ⟨#[97, 100, 100]⟩
  else if op = 4 then ⟨#[115, 117, 98]⟩
  else if op = 5 then ⟨#[109, 117, 108]⟩
  else if op = 6 then ⟨#[108, 101, 115, 115]⟩
  else if op = 7 then ⟨#[115, 97, 109, 101]⟩
  else if op = 8 then ⟨#[108, 111, 97, 100]⟩
  else if op = 9 then ⟨#[115, 116, 111, 114, 101]⟩
  else if op = 10 then ⟨#[108, 111, 97, 100, 97, 116]⟩
  else if op = 11 then ⟨#[115, 116, 111, 114, 101, 97, 116]⟩
  else if op = 12 then ⟨#[102, 101, 110, 99, 101]⟩
  else if op = 13 then ⟨#[99, 97, 115]⟩
  else if op = 14 then ⟨#[106, 117, 109, 112]⟩
  else if op = 15 then ⟨#[122, 101, 114, 111]⟩
  else if op = 16 then ⟨#[112, 114, 105, 110, 116]⟩
  else if op = 17 then ⟨#[108, 111, 99, 107]⟩
  else if op = 18 then ⟨#[117, 110, 108, 111, 99, 107]⟩
  else ⟨#[]⟩
theorem op_cases (op : Int) : (op < 1 ∨ 18 < op) ∨ op = 1 ∨ op = 2 ∨ op = 3 ∨ op = 4 ∨ op = 5 ∨ op = 6 ∨ op = 7 ∨ op = 8 ∨ op = 9 ∨ op = 10 ∨ op = 11 ∨ op = 12 ∨ op = 13 ∨ op = 14 ∨ op = 15 ∨ op = 16 ∨ op = 17 ∨ op = 18 := by omega
theorem kd_out {op : Int} (h : op < 1 ∨ 18 < op) : kd op = none := by
  unfold kd; repeat rw [if_neg (by omega)]
end

end Go.Proofs.YtkailbdjilkneaaDoor
