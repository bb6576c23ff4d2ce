/-
  A move of the document's run that does one that waits; what can be picked, whichever the mode.
  Orders that are moved to other places; what orders let wait; what runs come to: plain functions.
  FENCES ahead of which nothing waits are none: the outcomes are the same without them. Plain functions.
  All states that were come to, as the document holds them in memory; what stays as it was while its lists grow.
-/
import Derived.Test.YtgofbkgfonlceacRunP
import Derived.Test.YtgofbkgfonlceacBox
import Derived.Test.YtgofbkgfonlceacSameI
import Derived.Test.YtgofbkgfonlceacInProg
import Derived.Test.YtgofbkgfonlceacAppB
import Derived.Deep.QuietTactic
import Derived.BigQuiet
import Derived.BigRegion
namespace Go.Proofs.Ytgofbkgfonlceac
section
open Go.RowKit

theorem fam_shrink {w : World} {B : Nat} {e : TypeId} {size : Nat} {n m g cap : Nat} {xs : List Value} (h : w.ownsRow B e size (.slice (some ⟨g, 0, none⟩) n cap) n xs) (hm : m ≤ n) : w.ownsRow B e size (.slice (some ⟨g, 0, none⟩) m cap) m (xs.take (m * size)) := by
  obtain ⟨h0, h1⟩ := h
  have hmul : m * size ≤ n * size := Nat.mul_le_mul_right _ hm
  refine ⟨by rw [List.length_take, h0]; omega, ?_⟩
  rcases h1 with ⟨h1, _⟩ | ⟨g', cap', cur, hv, hg, hh, h2, h3, h4, h5⟩
  · simp at h1
  · simp only [Value.slice.injEq, Option.some.injEq, Addr.mk.injEq, and_true] at hv
    obtain ⟨rfl, _, rfl⟩ := hv
    exact Or.inr ⟨g, cap, cur, rfl, hg, hh, Nat.le_trans hm h2, h3, h4, by rw [← h5, List.take_take, Nat.min_eq_left hmul]⟩
attribute [local go_sem ↓] appS_eq
end

section
open Go.RowKit

/-- An order that lets something wait. -/
def wtO (op : Int) : Bool := decide (op = 9) || decide (op = 11) || decide (op = 18)
end

section
open Go.RowKit

/-- Where a thread can go on behind an order. -/
def nextO (op a b : Int) (i : Nat) : List Nat := if op = 14 then [a.toNat] else if op = 15 then [i + 1, b.toNat] else [i + 1]
/-- An order that is done only while nothing waits. -/
def awO (op : Int) : Bool := decide (op = 12) || decide (op = 13) || decide (op = 17)
section
variable {n m lk rg : Nat} {L L' : Nat → Nat} {X X' : Nat → Nat → Nat → Int} {pl : Nat → Nat → Nat} {mode : Int} {D : Nat → Nat → Bool} {W M : Nat → Nat → Prop}
end
end

section
open Go.RowKit

section
variable {ι : Type} {w w' : World} {vf vf' : ι → Value}
end

/-- The rows of a space. -/
inductive Sr where
  | box
  | st
  | ks
  | hd
  | bf
deriving DecidableEq
/-- What a space holds: where its states lie, the states, where their numbers lie, the outcomes, whether there are too many. -/
structure Sd where
  sbs : List Nat
  ss : List Sx
  ks : List (Option Addr × Nat)
  ends : Value
  full : Bool
section
variable {w w1 : World} {B : Nat} {P : Pg} {pb : Nat} {v : Sr → Value} {d : Sd}
end
end

end Go.Proofs.Ytgofbkgfonlceac
