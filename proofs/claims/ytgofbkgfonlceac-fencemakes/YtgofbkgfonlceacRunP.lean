/-
  What the document says of runs, as plain functions: what waits, the state of a run, what can be picked, what a move does, a run's trace.
  The state of a run of the document as it lies in memory, with all its rows; what a store and an append make of it.
  What holds of a state in every run of a program that may be; what an order's numbers may be.
  Outcomes and their order; all that can be come to, and what is told of it: plain functions.
-/
import Derived.Test.YtgofbkgfonlceacPlain
import Derived.WalkKit
import Derived.WalkSpells
import Derived.WalkLawsBesides
import Derived.Test.YtgofbkgfonlceacInProg
import Derived.Test.YtgofbkgfonlceacAppB
import Derived.Test.YtgofbkgfonlceacFam
namespace Go.Proofs.Ytgofbkgfonlceac
section
open Go.RowKit

/-- What waits: a store into a word, or that a lock becomes free. -/
structure Wt where
  lk : Bool
  wh : Int
  what : Int
deriving DecidableEq, Inhabited
/-- A thread of a run. -/
structure Th where
  pc : Nat
  regs : List Int
  wait : List Wt
deriving DecidableEq, Inhabited
/-- The state of a run. -/
structure Sx where
  ths : List Th
  words : List Int
  own : List Int
  prints : List Int
  fell : Bool
deriving DecidableEq, Inhabited

section
variable (L : Nat → Nat) (X : Nat → Nat → Nat → Int)

end
end

section
open Go.RowKit

/-- The rows of a state. -/
inductive Rl where
  | box
  | thr
  | words
  | own
  | prints
  | regs (t : Nat)
  | wait (t : Nat)
deriving DecidableEq

/-- A program as a value, and the mode. -/
structure Pg where
  ca : Option Addr
  n : Nat
  cc : Nat
  wa : Option Addr
  m : Nat
  wc : Nat
  lk : Int
  rg : Int
  mode : Int
section
variable {w w1 : World} {B : Nat} {P : Pg} {sb : Nat} {v : Rl → Value} {s : Sx}

end
end

section
open Go.RowKit

/-- The orders may be. -/
structure COk (n : Nat) (L : Nat → Nat) (X : Nat → Nat → Nat → Int) (m lk rg : Nat) : Prop where
  n4 : n ≤ 4
  L4 : ∀ t, t < n → L t ≤ 400
  m64 : m ≤ 64
  lk4 : lk ≤ 4
  rg0 : 1 ≤ rg
  rg2 : rg ≤ 200
  ord : ∀ t i, t < n → i < L t → ordE rg m lk (L t) (X t i 0) (X t i 1) (X t i 2) (X t i 3) = 0

section
variable {rg m lk sz : Nat} {op a b c : Int}
theorem ok_op (h : ordE rg m lk sz op a b c = 0) : 1 ≤ op ∧ op ≤ 18 := by
  rcases op_cases op with h1 | h1
  · exfalso
    unfold ordE at h
    rw [kd_out h1] at h
    simp at h
  · omega
theorem ok_three {rg m lk sz : Int} {x y z : Int} (hk : kd op = some (x, y, z)) (h : ordE rg m lk sz op a b c = 0) : okN rg m lk sz x a = true ∧ okN rg m lk sz y b = true ∧ okN rg m lk sz z c = true := by
  unfold ordE at h
  rw [hk] at h
  simp only at h
  split at h
  · rename_i h1; simpa [and_assoc] using h1
  · omega
theorem okN_reg {rg m lk sz n : Int} (h : okN rg m lk sz 1 n = true) : 0 ≤ n ∧ n < rg := by simpa [okN, lim] using h
theorem okN_place {rg m lk sz n : Int} (h : okN rg m lk sz 4 n = true) : 0 ≤ n ∧ n ≤ sz := by
  have : 0 ≤ n ∧ n < sz + 1 := by simpa [okN, lim] using h
  omega
theorem ok_jump (h : ordE rg m lk sz 14 a b c = 0) : 0 ≤ a ∧ a ≤ sz := okN_place (ok_three (op := 14) rfl h).1
theorem ok_zero (h : ordE rg m lk sz 15 a b c = 0) : (0 ≤ a ∧ a < rg) ∧ (0 ≤ b ∧ b ≤ sz) := by
  have := ok_three (op := 15) rfl h
  exact ⟨okN_reg this.1, okN_place this.2.1⟩
end
theorem toN {a : Int} {n : Nat} (h : 0 ≤ a ∧ a < n) : ∃ k : Nat, a = k ∧ k < n := ⟨a.toNat, by omega, by omega⟩
end

section
open Go.RowKit

/-! Outcomes and their order. -/
/-- An outcome: how a run ended, the words, what was printed. -/
structure Oc where
  st : Int
  ws : List Int
  pr : List Int
deriving DecidableEq, Inhabited
/-! All that can be come to. -/
section
variable {S : Type}
theorem nodup_len [DecidableEq S] : ∀ {l r : List S}, l.Nodup → (∀ x, x ∈ l → x ∈ r) → l.length ≤ r.length
  | [], _, _, _ => Nat.zero_le _
  | a :: l, r, hl, h => by
    rw [List.nodup_cons] at hl
    have ha : a ∈ r := h a (by simp)
    have h1 := nodup_len (l := l) (r := r.erase a) hl.2 (fun x hx => by
      have hne : x ≠ a := fun e => hl.1 (e ▸ hx)
      exact (List.mem_erase_of_ne hne).mpr (h x (by simp [hx])))
    rw [List.length_erase_of_mem ha] at h1
    have : 0 < r.length := List.length_pos_of_mem ha
    simp only [List.length_cons]
    omega
end
end

end Go.Proofs.Ytgofbkgfonlceac
