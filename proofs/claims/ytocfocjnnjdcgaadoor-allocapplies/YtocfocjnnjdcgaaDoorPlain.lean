/-
  What chapter 1 says of a program's orders, as plain functions of numbers: which kinds of numbers an order has, whether a number may be, what is the first thing that is wrong.
  Truths that grow.
  Rows that a run owns, each under a name of its own, in blocks that are apart: what a store and an append make of them, and what stays as it was.
  Rows that stay where others grow.
-/
import Derived.Test.YtocfocjnnjdcgaaDoorBase
import Derived.WalkKit
import Derived.WalkSpells
import Derived.WalkLawsBesides
import Derived.Deep.AppendLies
namespace Go.Proofs.YtocfocjnnjdcgaaDoor
section
/-- An order's three kinds of numbers: 0 nothing, 1 a register, 2 a word, 3 a lock, 4 a place, 5 any number. -/
def kd (op : Int) : Option (Int × Int × Int) :=
  if op = 1 then some (1, 5, 0) else if op = 2 then some (1, 1, 0) else if op = 3 then some (1, 1, 1) else if op = 4 then some (1, 1, 1)
  else if op = 5 then some (1, 1, 1) else if op = 6 then some (1, 1, 1) else if op = 7 then some (1, 1, 1) else if op = 8 then some (1, 2, 0)
  else if op = 9 then some (2, 1, 0) else if op = 10 then some (1, 1, 0) else if op = 11 then some (1, 1, 0) else if op = 12 then some (0, 0, 0)
  else if op = 13 then some (2, 1, 1) else if op = 14 then some (4, 0, 0) else if op = 15 then some (1, 4, 0) else if op = 16 then some (1, 0, 0)
  else if op = 17 then some (3, 0, 0) else if op = 18 then some (3, 0, 0) else none

/-- The least number from 0 on that is too great. -/
def lim (rg wd lk sz k : Int) : Int :=
  if k = 0 then 1 else if k = 1 then rg else if k = 2 then wd else if k = 3 then lk else if k = 4 then sz + 1 else 0

def okN (rg wd lk sz k n : Int) : Bool := (k == 5) || (decide (0 ≤ n) && decide (n < lim rg wd lk sz k))

/-- What is wrong with an order: 0 nothing, 2 there is none, 3 a number. -/
def ordE (rg wd lk sz op a b c : Int) : Int :=
  match kd op with
  | none => 2
  | some (x, y, z) => if okN rg wd lk sz x a && okN rg wd lk sz y b && okN rg wd lk sz z c then 0 else 3

/-- The first of f indices from k on at which E is not 0. -/
def firstBad (E : Nat → Int) : Nat → Nat → Option (Int × Int)
  | 0, _ => none
  | f + 1, k => if E k = 0 then firstBad E f (k + 1) else some (E k, k)

theorem firstBad_step {E : Nat → Int} {n k : Nat} (h : k < n) (h0 : E k = 0) : firstBad E (n - k) k = firstBad E (n - (k + 1)) (k + 1) := by
  obtain ⟨f, hf⟩ : ∃ f, n - k = f + 1 := ⟨n - k - 1, by omega⟩
  rw [hf, show n - (k + 1) = f by omega, firstBad, if_pos h0]
theorem firstBad_hit {E : Nat → Int} {n k : Nat} (h : k < n) (h0 : E k ≠ 0) : firstBad E (n - k) k = some (E k, (k : Int)) := by
  obtain ⟨f, hf⟩ : ∃ f, n - k = f + 1 := ⟨n - k - 1, by omega⟩
  rw [hf, firstBad, if_neg h0]
theorem firstBad_end {E : Nat → Int} {n k : Nat} (h : n ≤ k) : firstBad E (n - k) k = none := by
  rw [show n - k = 0 by omega, firstBad]

/-- The first thread at which R tells something. -/
def firstThread (R : Nat → Option (Int × Int)) : Nat → Nat → Int × Int × Int
  | 0, _ => (0, 0, 0)
  | f + 1, k => match R k with
    | none => firstThread R f (k + 1)
    | some (c, a) => (c, k, a)

theorem firstThread_step {R : Nat → Option (Int × Int)} {n k : Nat} (h : k < n) (h0 : R k = none) : firstThread R (n - k) k = firstThread R (n - (k + 1)) (k + 1) := by
  obtain ⟨f, hf⟩ : ∃ f, n - k = f + 1 := ⟨n - k - 1, by omega⟩
  rw [hf, show n - (k + 1) = f by omega, firstThread, h0]
theorem firstThread_hit {R : Nat → Option (Int × Int)} {n k : Nat} {c a : Int} (h : k < n) (h0 : R k = some (c, a)) : firstThread R (n - k) k = (c, (k : Int), a) := by
  obtain ⟨f, hf⟩ : ∃ f, n - k = f + 1 := ⟨n - k - 1, by omega⟩
  rw [hf, firstThread, h0]
theorem firstThread_end {R : Nat → Option (Int × Int)} {n k : Nat} (h : n ≤ k) : firstThread R (n - k) k = (0, 0, 0) := by
  rw [show n - k = 0 by omega, firstThread]

/-- One thread: too long, or its first order that is wrong. 'X t i j': of thread t, order i, number j (0: what it does). -/
def thr (rg wd lk : Int) (L : Nat → Nat) (X : Nat → Nat → Nat → Int) (t : Nat) : Option (Int × Int) :=
  if 400 < L t then some (1, 0) else firstBad (fun i => ordE rg wd lk (L t) (X t i 0) (X t i 1) (X t i 2) (X t i 3)) (L t) 0

/-- What is wrong with the sizes: 0 nothing, 1 too many, 3 a number. -/
def sizesE (n m : Nat) (lk rg : Int) : Int :=
  if (n : Int) < 1 ∨ 4 < (n : Int) ∨ 64 < (m : Int) then 1 else if lk < 0 ∨ 4 < lk ∨ rg < 1 ∨ 200 < rg then 3 else 0

/-- A2. -/
def chk (n : Nat) (L : Nat → Nat) (X : Nat → Nat → Nat → Int) (m : Nat) (lk rg : Int) : Int × Int × Int :=
  if sizesE n m lk rg ≠ 0 then (sizesE n m lk rg, 0, 0) else firstThread (thr rg m lk L X) n 0
end

section
def cntF (R : List Bool) : Nat := (R.filter fun b => !b).length
theorem cnt_set : ∀ {R : List Bool} {j : Nat}, R.getD j true = false → cntF (R.set j true) < cntF R
  | [], j, h => by simp at h
  | b :: R, 0, h => by
    have : b = false := h
    subst this
    simp [cntF]
  | b :: R, j + 1, h => by
    have := cnt_set (R := R) (j := j) (by simpa using h)
    cases b
    · simpa [cntF] using this
    · simpa [cntF] using this
theorem getD_setT {R : List Bool} {j i : Nat} (hj : j < R.length) : (R.set j true).getD i false = if i = j then true else R.getD i false := by
  rw [List.getD_eq_getElem?_getD, List.getD_eq_getElem?_getD]
  by_cases e : i = j
  · subst e
    rw [List.getElem?_set_self hj, if_pos rfl]
    rfl
  · rw [List.getElem?_set_ne (fun x => e x.symm), if_neg e]
end

section
open Go.RowKit

abbrev nilV : Value := .slice none 0 0
/-- A pointer's block as a row of one. -/
abbrev boxV (b : Nat) : Value := .slice (some ⟨b, 0, none⟩) 1 1

theorem fam_put {w : World} {B : Nat} {e : TypeId} {size : Nat} {v : Value} {n : Nat} {xs : List Value} (h : w.ownsRow B e size v n xs) {g : Nat} (hg : v.ownBlock = some g) (i : Nat) (u : Value) : (w.setCell ⟨g, i, none⟩ u).ownsRow B e size v n (xs.set i u) := by
  refine ⟨by simp [h.1], ?_⟩
  rcases h.2 with ⟨h0, _⟩ | ⟨g', cap', cur, hv, hg', hh, h1, h2, h3, h4⟩
  · rw [h0] at hg; simp [Value.ownBlock] at hg
  · rw [hv] at hg
    have e : g' = g := by simpa [Value.ownBlock] using hg
    subst e
    refine Or.inr ⟨g', cap', cur.setIfInBounds i u, hv, hg', ?_, h1, h2, by simp [h3], ?_⟩
    · simp only [World.setCell, Array.getElem?_modify, if_true, hh, Option.map_some]
      rfl
    · rw [Array.toList_setIfInBounds, List.take_set, h4]
theorem fam_frozen {w : World} {B : Nat} {e : TypeId} {size : Nat} {v : Value} {n : Nat} {xs : List Value} (h : w.ownsRow B e size v n xs) {g : Nat} (hg : v.ownBlock = some g) (i : Nat) : w.frozen? ⟨g, i, none⟩ = false := by
  rcases h.2 with ⟨h0, _⟩ | ⟨g', cap', cur, hv, _, hh, _⟩
  · rw [h0] at hg; simp [Value.ownBlock] at hg
  · rw [hv] at hg
    have e : g' = g := by simpa [Value.ownBlock] using hg
    subst e
    simp [World.frozen?, hh]
theorem fam_cell {w : World} {B : Nat} {e : TypeId} {size : Nat} {v : Value} {n : Nat} {xs : List Value} (h : w.ownsRow B e size v n xs) {g : Nat} (hg : v.ownBlock = some g) {i : Nat} {u : Value} (hu : xs[i]? = some u) : w.cell? ⟨g, i, none⟩ = some u := by
  have := h.cells hg i u hu
  have hadd : (⟨g, 0, none⟩ : Addr).add i = ⟨g, i, none⟩ := by unfold Addr.add; split <;> simp_all
  rwa [hadd] at this
/-- What a value looks like that owns something, or nothing. -/
theorem fam_form {w : World} {B : Nat} {e : TypeId} {size : Nat} {v : Value} {n : Nat} {xs : List Value} (h : w.ownsRow B e size v n xs) : ∃ a cap, v = .slice a n cap := by
  rcases h.2 with ⟨h0, h1⟩ | ⟨g, cap, _, hv, _⟩
  · exact ⟨none, 0, by rw [h0, h1]⟩
  · exact ⟨_, cap, hv⟩
theorem fam_block {w : World} {B : Nat} {e : TypeId} {size : Nat} {v : Value} {n : Nat} {xs : List Value} (h : w.ownsRow B e size v n xs) (hn : 0 < n) : ∃ g cap, v = .slice (some ⟨g, 0, none⟩) n cap ∧ v.ownBlock = some g ∧ B ≤ g ∧ g < w.heap.size := by
  obtain ⟨g, cap, hv, h1, h2⟩ := h.form hn
  exact ⟨g, cap, hv, by rw [hv]; rfl, h1, h2⟩
section
variable {ι : Type} [DecidableEq ι]
end

section
variable {ι : Type} {w w1 w2 : World} {B : Nat} {ty : ι → TypeId} {sz : ι → Nat} {v v1 v2 : ι → Value} {n n1 : ι → Nat} {xs xs1 : ι → List Value}

variable [DecidableEq ι]
end

/-! Rows of three cells each. -/
end

section
open Go.RowKit

theorem grown_block {w w' : World} {r : Option Nat} (h : w.grownBy w' r) {g : Nat} (hg : g < w.heap.size) (hne : r ≠ some g) : w'.heap[g]? = w.heap[g]? := h.block g hg (fun e => hne e.symm)
/-- A row stays where another one grows. -/
theorem own_grown {w w' : World} {r : Option Nat} {B : Nat} {e : TypeId} {size : Nat} {v : Value} {n : Nat} {xs : List Value} (h : w.ownsRow B e size v n xs) (hg : w.grownBy w' r) (hne : ∀ g, v.ownBlock = some g → r ≠ some g) : w'.ownsRow B e size v n xs :=
  fam_keeps h fun g e => grown_block hg (h.lt g e).2 (hne g e)
theorem owns_two {W : World} {B B' : Nat} {e e' : TypeId} {size size' : Nat} {v v' : Value} {n n' : Nat} {xs xs' : List Value} (h : W.ownsRow B e size v n xs) (h' : W.ownsRow B' e' size' v' n' xs') (hne : e ≠ e') {g : Nat} (h1 : v.ownBlock = some g) : v'.ownBlock ≠ some g := fun h2 => by
  rcases h.2 with ⟨h0, _⟩ | ⟨g1, cap, cur, hv, _, hh, _⟩
  · rw [h0] at h1; simp [Value.ownBlock] at h1
  rcases h'.2 with ⟨h0, _⟩ | ⟨g2, cap2, cur2, hv2, _, hh2, _⟩
  · rw [h0] at h2; simp [Value.ownBlock] at h2
  rw [hv] at h1
  rw [hv2] at h2
  have e1 : g1 = g := by simpa [Value.ownBlock] using h1
  have e2 : g2 = g := by simpa [Value.ownBlock] using h2
  rw [e1] at hh
  rw [e2, hh] at hh2
  simp only [Option.some.injEq, Obj.cells.injEq] at hh2
  exact hne hh2.2.1
end

end Go.Proofs.YtocfocjnnjdcgaaDoor
