/-
  What an order's numbers may be, of a program that may be.
  Orders anew, as plain functions: their numbers, that they may be.
  What the document says of runs, as plain functions: what waits, the state of a run, what can be picked, what a move does, a run's trace.
  The state of a run of the document as it lies in memory, with all its rows; what a store and an append make of it.
  A program that passed Check.
  A state that is being begun: its words, one lock more, one thread more.
  Orders anew, as plain functions: what each becomes, where it lies, that it may be; where something may wait.
-/
import Derived.Test.YtocfocjnnjdcgaaDoorSmall
import Derived.Test.YtocfocjnnjdcgaaDoorInProg
import Derived.Test.YtocfocjnnjdcgaaDoorOrder
import Derived.Test.YtocfocjnnjdcgaaDoorPlain
import Derived.WalkKit
import Derived.WalkSpells
import Derived.WalkLawsBesides
import Derived.Test.YtocfocjnnjdcgaaDoorAppB
import Derived.Deep.QuietTactic
import Derived.BigQuiet
import Derived.BigRegion
import Derived.Deep.AppendSrc
import Derived.Deep.OwnRows
import Derived.StillTailTactics
namespace Go.Proofs.YtocfocjnnjdcgaaDoor
section
open Go.RowKit

/-- The orders may be. -/
structure COk (n : Nat) (L : Nat → Nat) (X : Nat → Nat → Nat → Int) (m lk rg : Nat) : Prop where
  n4 : n ≤ 4
  L4 : ∀ t, t < n → L t ≤ 1000
  m64 : m ≤ 64
  lk4 : lk ≤ 4
  rg0 : 1 ≤ rg
  rg2 : rg ≤ 200
  ord : ∀ t i, t < n → i < L t → ordE rg m lk (L t) (X t i 0) (X t i 1) (X t i 2) (X t i 3) = 0

section
variable {rg m lk sz : Nat} {op a b c : Int}
theorem ok_op (h : ordE rg m lk sz op a b c = 0) : 1 ≤ op ∧ op ≤ 18 := by
  rcases op_cases op with h1 | h1
  · exfalso
    unfold ordE at h
    rw [kd_out h1] at h
    simp at h
  · omega
theorem ok_three {rg m lk sz : Int} {x y z : Int} (hk : kd op = some (x, y, z)) (h : ordE rg m lk sz op a b c = 0) : okN rg m lk sz x a = true ∧ okN rg m lk sz y b = true ∧ okN rg m lk sz z c = true := by
  unfold ordE at h
  rw [hk] at h
  simp only at h
  split at h
  · rename_i h1; simpa [and_assoc] using h1
  · omega
theorem okN_reg {rg m lk sz n : Int} (h : okN rg m lk sz 1 n = true) : 0 ≤ n ∧ n < rg := by simpa [okN, lim] using h
theorem okN_word {rg m lk sz n : Int} (h : okN rg m lk sz 2 n = true) : 0 ≤ n ∧ n < m := by simpa [okN, lim] using h
theorem okN_place {rg m lk sz n : Int} (h : okN rg m lk sz 4 n = true) : 0 ≤ n ∧ n ≤ sz := by
  have : 0 ≤ n ∧ n < sz + 1 := by simpa [okN, lim] using h
  omega
/-- An order of three registers. -/
theorem ok_rrr (ho : op = 3 ∨ op = 4 ∨ op = 5 ∨ op = 6 ∨ op = 7) (h : ordE rg m lk sz op a b c = 0) : (0 ≤ a ∧ a < rg) ∧ (0 ≤ b ∧ b < rg) ∧ (0 ≤ c ∧ c < rg) := by
  have hk : kd op = some (1, 1, 1) := by rcases ho with rfl | rfl | rfl | rfl | rfl <;> rfl
  have := ok_three hk h
  exact ⟨okN_reg this.1, okN_reg this.2.1, okN_reg this.2.2⟩
theorem ok_const (h : ordE rg m lk sz 1 a b c = 0) : 0 ≤ a ∧ a < rg := okN_reg (ok_three (op := 1) rfl h).1
theorem ok_rr (ho : op = 2 ∨ op = 10 ∨ op = 11) (h : ordE rg m lk sz op a b c = 0) : (0 ≤ a ∧ a < rg) ∧ (0 ≤ b ∧ b < rg) := by
  have hk : kd op = some (1, 1, 0) := by rcases ho with rfl | rfl | rfl <;> rfl
  have := ok_three hk h
  exact ⟨okN_reg this.1, okN_reg this.2.1⟩
theorem ok_load (h : ordE rg m lk sz 8 a b c = 0) : (0 ≤ a ∧ a < rg) ∧ (0 ≤ b ∧ b < m) := by
  have := ok_three (op := 8) rfl h
  exact ⟨okN_reg this.1, okN_word this.2.1⟩
theorem ok_store (h : ordE rg m lk sz 9 a b c = 0) : (0 ≤ a ∧ a < m) ∧ (0 ≤ b ∧ b < rg) := by
  have := ok_three (op := 9) rfl h
  exact ⟨okN_word this.1, okN_reg this.2.1⟩
theorem ok_cas (h : ordE rg m lk sz 13 a b c = 0) : (0 ≤ a ∧ a < m) ∧ (0 ≤ b ∧ b < rg) ∧ (0 ≤ c ∧ c < rg) := by
  have := ok_three (op := 13) rfl h
  exact ⟨okN_word this.1, okN_reg this.2.1, okN_reg this.2.2⟩
theorem ok_jump (h : ordE rg m lk sz 14 a b c = 0) : 0 ≤ a ∧ a ≤ sz := okN_place (ok_three (op := 14) rfl h).1
theorem ok_zero (h : ordE rg m lk sz 15 a b c = 0) : (0 ≤ a ∧ a < rg) ∧ (0 ≤ b ∧ b ≤ sz) := by
  have := ok_three (op := 15) rfl h
  exact ⟨okN_reg this.1, okN_place this.2.1⟩
theorem ok_print (h : ordE rg m lk sz 16 a b c = 0) : 0 ≤ a ∧ a < rg := okN_reg (ok_three (op := 16) rfl h).1
end
theorem toN {a : Int} {n : Nat} (h : 0 ≤ a ∧ a < n) : ∃ k : Nat, a = k ∧ k < n := ⟨a.toNat, by omega, by omega⟩
end

section
open Go.RowKit

/-- The new orders as numbers. -/
def lenR (b : Nat → Nat → List I4) (L : Nat → Nat) : Nat → Nat := fun t => (codeR (b t) (L t)).length
def numR (b : Nat → Nat → List I4) (L : Nat → Nat) : Nat → Nat → Nat → Int := fun t i q => nth4 ((codeR (b t) (L t)).getD i fenceI) q
/-- New orders may be, where the old ones may. -/
theorem led_ok {rg m lk sz : Nat} {pl : Nat → Nat} {x : I4} (h : ordE rg m lk sz x.1 x.2.1 x.2.2.1 x.2.2.2 = 0) {sz' : Nat} (hp : ∀ a, a ≤ sz → pl a ≤ sz') : ordE rg m lk sz' (ledO pl x).1 (ledO pl x).2.1 (ledO pl x).2.2.1 (ledO pl x).2.2.2 = 0 := by
  obtain ⟨op, a, b, c⟩ := x
  show ordE rg m lk sz' op (if op = 14 then _ else _) (if op = 15 then _ else _) c = 0
  simp only at h
  have ho := ok_op h
  by_cases h14 : op = 14
  · subst h14
    have h1 := ok_three (op := 14) rfl h
    have h2 := okN_place h1.1
    have h3 := hp a.toNat (by omega)
    unfold ordE
    simp only [kd, Int.reduceEq, ↓reduceIte]
    have h4 : okN rg m lk sz' 4 (pl a.toNat : Int) = true := by
      unfold okN lim
      simp
      omega
    rw [h4]
    have h5 : okN rg m lk sz' 0 b = true := h1.2.1
    have h6 : okN rg m lk sz' 0 c = true := h1.2.2
    rw [h5, h6]
    rfl
  · by_cases h15 : op = 15
    · subst h15
      have h1 := ok_three (op := 15) rfl h
      have h2 := okN_place h1.2.1
      have h3 := hp b.toNat (by omega)
      unfold ordE
      simp only [kd, Int.reduceEq, ↓reduceIte]
      have h4 : okN rg m lk sz' 4 (pl b.toNat : Int) = true := by
        unfold okN lim
        simp
        omega
      rw [h4]
      have h5 : okN rg m lk sz' 1 a = true := h1.1
      have h6 : okN rg m lk sz' 0 c = true := h1.2.2
      rw [h5, h6]
      rfl
    · rw [if_neg h14, if_neg h15]
      rcases op_cases op with e | rfl | rfl | rfl | rfl | rfl | rfl | rfl | rfl | rfl | rfl | rfl | rfl | rfl | rfl | rfl | rfl | rfl | rfl
      · omega
      all_goals first
        | exact absurd rfl h14
        | exact absurd rfl h15
        | exact h
/-- The first thread that is too long. -/
def longR (L : Nat → Nat) (t : Nat) : Option (Int × Int) := if 400 < L t then some (1, 0) else none
theorem bad_all {E : Nat → Int} : ∀ (f k : Nat), (∀ i, k ≤ i → i < k + f → E i = 0) → firstBad E f k = none
  | 0, _, _ => rfl
  | f + 1, k, h => by
    rw [firstBad, if_pos (h k (by omega) (by omega))]
    exact bad_all f (k + 1) (fun i h1 h2 => h i (by omega) (by omega))
theorem first_congr {R S : Nat → Option (Int × Int)} : ∀ (f k : Nat), (∀ i, k ≤ i → i < k + f → R i = S i) → firstThread R f k = firstThread S f k
  | 0, _, _ => rfl
  | f + 1, k, h => by
    rw [firstThread, firstThread, h k (by omega) (by omega)]
    rw [first_congr f (k + 1) (fun i h1 h2 => h i (by omega) (by omega))]
section
variable {n m lk rg : Nat} {L : Nat → Nat} {X : Nat → Nat → Nat → Int} {b : Nat → Nat → List I4}
/-- New orders that may be, each in the place of one at most. -/
theorem newG_ok (hb : ∀ t i, t < n → i < L t → ∀ x, x ∈ b t i → ordE rg m lk (L t) x.1 x.2.1 x.2.2.1 x.2.2.2 = 0) : ∀ t i, t < n → i < lenR b L t → ordE rg m lk (lenR b L t) (numR b L t i 0) (numR b L t i 1) (numR b L t i 2) (numR b L t i 3) = 0 := fun t j ht hj => by
  unfold lenR at hj
  rw [code_len] at hj
  obtain ⟨i, k, hi, hk, rfl⟩ := raw_find hj
  have h1 := code_at hk hi fenceI
  have hx : (b t i).getD k fenceI ∈ b t i := by
    rw [List.getD_eq_getElem?_getD, List.getElem?_eq_getElem hk]
    exact List.getElem_mem hk
  unfold numR
  rw [h1]
  exact led_ok (sz := L t) (x := (b t i).getD k fenceI) (hb t i ht hi _ hx) (fun a ha => by unfold lenR; rw [code_len]; exact pl_mono ha)
end
end

section
open Go.RowKit

/-- What waits: a store into a word, or that a lock becomes free. -/
structure Wt where
  lk : Bool
  wh : Int
  what : Int
deriving DecidableEq, Inhabited
/-- A thread of a run. -/
structure Th where
  pc : Nat
  regs : List Int
  wait : List Wt
deriving DecidableEq, Inhabited
/-- The state of a run. -/
structure Sx where
  ths : List Th
  words : List Int
  own : List Int
  prints : List Int
  fell : Bool
deriving DecidableEq, Inhabited

section
variable (L : Nat → Nat) (X : Nat → Nat → Nat → Int)

end
end

section
open Go.RowKit

/-- The rows of a state. -/
inductive Rl where
  | box
  | thr
  | words
  | own
  | prints
  | regs (t : Nat)
  | wait (t : Nat)
deriving DecidableEq

/-- A program as a value, and the mode. -/
structure Pg where
  ca : Option Addr
  n : Nat
  cc : Nat
  wa : Option Addr
  m : Nat
  wc : Nat
  lk : Int
  rg : Int
  mode : Int
section
variable {w w1 : World} {B : Nat} {P : Pg} {sb : Nat} {v : Rl → Value} {s : Sx}

end
end

section
open Go.RowKit

theorem bad_none {E : Nat → Int} : ∀ (f k : Nat), firstBad E f k = none → ∀ i, k ≤ i → i < k + f → E i = 0
  | 0, k, _, i, h1, h2 => by omega
  | f + 1, k, h, i, h1, h2 => by
    rw [firstBad] at h
    split at h
    · rename_i h0
      by_cases e : i = k
      · subst e; exact h0
      · exact bad_none f (k + 1) h i (by omega) (by omega)
    · cases h
theorem thread_ok {R : Nat → Option (Int × Int)} (hR : ∀ t c a, R t = some (c, a) → c ≠ 0) : ∀ (f k : Nat), (firstThread R f k).1 = 0 → ∀ i, k ≤ i → i < k + f → R i = none
  | 0, k, _, i, h1, h2 => by omega
  | f + 1, k, h, i, h1, h2 => by
    rw [firstThread] at h
    split at h
    · rename_i h0
      by_cases e : i = k
      · subst e; exact h0
      · exact thread_ok hR f (k + 1) h i (by omega) (by omega)
    · rename_i c a h0
      exact absurd h (hR k c a h0)
theorem thread_zero {R : Nat → Option (Int × Int)} (hR : ∀ t c a, R t = some (c, a) → c ≠ 0) : ∀ (f k : Nat), (firstThread R f k).1 = 0 → firstThread R f k = (0, 0, 0)
  | 0, _, _ => rfl
  | f + 1, k, h => by
    rw [firstThread] at h ⊢
    split at h
    · exact thread_zero hR f (k + 1) h
    · rename_i c a h0
      exact absurd h (hR k c a h0)
theorem bad_ne {E : Nat → Int} : ∀ (f k : Nat) (c a : Int), firstBad E f k = some (c, a) → c ≠ 0
  | 0, k, c, a, h => by simp [firstBad] at h
  | f + 1, k, c, a, h => by
    rw [firstBad] at h
    split at h
    · exact bad_ne f (k + 1) c a h
    · rename_i h0
      simp only [Option.some.injEq, Prod.mk.injEq] at h
      rw [← h.1]; exact h0
theorem thr_ne {rg wd lk : Int} {L : Nat → Nat} {X : Nat → Nat → Nat → Int} : ∀ t c a, thr rg wd lk L X t = some (c, a) → c ≠ 0 := fun t c a e => by
  unfold thr at e
  split at e
  · simp at e; omega
  · exact bad_ne _ _ _ _ e

/-- What Check lets pass: the sizes, every order. -/
theorem chk_cok {n m : Nat} {L : Nat → Nat} {X : Nat → Nat → Nat → Int} {lk rg x y z : Int} (h : chk n L X m lk rg = (x, y, z)) (hx : x = 0) : y = 0 ∧ z = 0 ∧ 0 < n ∧ ∃ lk' rg' : Nat, lk = lk' ∧ rg = rg' ∧ COk n L X m lk' rg' := by
  subst hx
  unfold chk at h
  split at h
  · rename_i h1
    simp only [Prod.mk.injEq] at h
    exact absurd h.1 h1
  · rename_i h1
    have h1 : sizesE n m lk rg = 0 := by simpa using h1
    unfold sizesE at h1
    split at h1
    · cases h1
    · split at h1
      · cases h1
      · rename_i h2 h3
        have hz := thread_zero thr_ne n 0 (by rw [h])
        rw [h] at hz
        simp only [Prod.mk.injEq] at hz
        have hR : ∀ t, t < n → thr rg m lk L X t = none := fun t ht => thread_ok thr_ne n 0 (by rw [h]) t (Nat.zero_le _) (by omega)
        have hL : ∀ t, t < n → L t ≤ 400 ∧ firstBad (fun i => ordE rg m lk (L t) (X t i 0) (X t i 1) (X t i 2) (X t i 3)) (L t) 0 = none := fun t ht => by
          have := hR t ht
          unfold thr at this
          split at this
          · cases this
          · exact ⟨by omega, this⟩
        obtain ⟨lk', rfl⟩ := Int.eq_ofNat_of_zero_le (by omega : 0 ≤ lk)
        obtain ⟨rg', rfl⟩ := Int.eq_ofNat_of_zero_le (by omega : 0 ≤ rg)
        exact ⟨hz.2.1, hz.2.2, by omega, lk', rg', rfl, rfl, by omega, fun t ht => Nat.le_trans (hL t ht).1 (by decide), by omega, by omega, by omega, by omega, fun t i ht hi => bad_none (L t) 0 (hL t ht).2 i (Nat.zero_le _) (by omega)⟩
end

section
open Go.RowKit

section
variable {w w1 : World} {B : Nat} {P : Pg} {sb : Nat} {v : Rl → Value} {s : Sx}
end
/-- The state's box alone. -/
def v0 (sb : Nat) : Rl → Value := fun q => if q = .box then boxV sb else nilV
def s0 : Sx := { ths := [], words := [], own := [], prints := [], fell := false }
end

section
open Go.RowKit

theorem long_cases {L : Nat → Nat} : ∀ (f k : Nat), (firstThread (longR L) f k = (0, 0, 0) ∧ ∀ i, k ≤ i → i < k + f → L i ≤ 400) ∨ ∃ t, k ≤ t ∧ t < k + f ∧ firstThread (longR L) f k = (1, (t : Int), 0) ∧ 400 < L t ∧ ∀ i, k ≤ i → i < t → L i ≤ 400
  | 0, k => Or.inl ⟨rfl, fun i h1 h2 => absurd h2 (by omega)⟩
  | f + 1, k => by
    by_cases e : 400 < L k
    · refine Or.inr ⟨k, by omega, by omega, ?_, e, fun i h1 h2 => absurd h2 (by omega)⟩
      rw [firstThread]
      unfold longR
      rw [if_pos e]
    · have hk : longR L k = none := by unfold longR; rw [if_neg e]
      rw [firstThread, hk]
      simp only
      rcases long_cases f (k + 1) with ⟨h1, h2⟩ | ⟨t, h1, h2, h3, h4, h5⟩
      · refine Or.inl ⟨h1, fun i h3 h4 => ?_⟩
        by_cases e2 : i = k
        · rw [e2]; omega
        · exact h2 i (by omega) (by omega)
      · refine Or.inr ⟨t, by omega, by omega, h3, h4, fun i h6 h7 => ?_⟩
        by_cases e2 : i = k
        · rw [e2]; omega
        · exact h5 i (by omega) h7
end

end Go.Proofs.YtocfocjnnjdcgaaDoor
