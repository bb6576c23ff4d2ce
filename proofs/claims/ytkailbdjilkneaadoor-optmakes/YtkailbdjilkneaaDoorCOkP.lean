/-
  What an order's numbers may be, of a program that may be.
  What chapter 13 says of registers that are live, and of those that clash: least sets, and the passes that find them.
  What the document says of runs, as plain functions: what waits, the state of a run, what can be picked, what a move does, a run's trace.
  A program that passed Check.
  The state of a run of the document as it lies in memory, with all its rows; what a store and an append make of it.
  A state that is being begun: its words, one lock more, one thread more.
-/
import Derived.Test.YtkailbdjilkneaaDoorPlain
import Derived.WalkKit
import Derived.WalkSpells
import Derived.WalkLawsBesides
import Derived.Test.YtkailbdjilkneaaDoorInProg
import Derived.Test.YtkailbdjilkneaaDoorAppB
import Derived.Deep.QuietTactic
import Derived.BigQuiet
import Derived.BigRegion
import Derived.Deep.AppendSrc
import Derived.Deep.OwnRows
namespace Go.Proofs.YtkailbdjilkneaaDoor
section
open Go.RowKit

/-- The orders may be. -/
structure COk (n : Nat) (L : Nat → Nat) (X : Nat → Nat → Nat → Int) (m lk rg : Nat) : Prop where
  n4 : n ≤ 4
  L4 : ∀ t, t < n → L t ≤ 1000
  m64 : m ≤ 64
  lk4 : lk ≤ 4
  rg0 : 1 ≤ rg
  rg2 : rg ≤ 200
  ord : ∀ t i, t < n → i < L t → ordE rg m lk (L t) (X t i 0) (X t i 1) (X t i 2) (X t i 3) = 0

section
variable {rg m lk sz : Nat} {op a b c : Int}
theorem ok_op (h : ordE rg m lk sz op a b c = 0) : 1 ≤ op ∧ op ≤ 18 := by
  rcases op_cases op with h1 | h1
  · exfalso
    unfold ordE at h
    rw [kd_out h1] at h
    simp at h
  · omega
theorem ok_three {rg m lk sz : Int} {x y z : Int} (hk : kd op = some (x, y, z)) (h : ordE rg m lk sz op a b c = 0) : okN rg m lk sz x a = true ∧ okN rg m lk sz y b = true ∧ okN rg m lk sz z c = true := by
  unfold ordE at h
  rw [hk] at h
  simp only at h
  split at h
  · rename_i h1; simpa [and_assoc] using h1
  · omega
theorem okN_reg {rg m lk sz n : Int} (h : okN rg m lk sz 1 n = true) : 0 ≤ n ∧ n < rg := by simpa [okN, lim] using h
theorem okN_word {rg m lk sz n : Int} (h : okN rg m lk sz 2 n = true) : 0 ≤ n ∧ n < m := by simpa [okN, lim] using h
theorem okN_place {rg m lk sz n : Int} (h : okN rg m lk sz 4 n = true) : 0 ≤ n ∧ n ≤ sz := by
  have : 0 ≤ n ∧ n < sz + 1 := by simpa [okN, lim] using h
  omega
/-- An order of three registers. -/
theorem ok_rrr (ho : op = 3 ∨ op = 4 ∨ op = 5 ∨ op = 6 ∨ op = 7) (h : ordE rg m lk sz op a b c = 0) : (0 ≤ a ∧ a < rg) ∧ (0 ≤ b ∧ b < rg) ∧ (0 ≤ c ∧ c < rg) := by
  have hk : kd op = some (1, 1, 1) := by rcases ho with rfl | rfl | rfl | rfl | rfl <;> rfl
  have := ok_three hk h
  exact ⟨okN_reg this.1, okN_reg this.2.1, okN_reg this.2.2⟩
theorem ok_const (h : ordE rg m lk sz 1 a b c = 0) : 0 ≤ a ∧ a < rg := okN_reg (ok_three (op := 1) rfl h).1
theorem ok_rr (ho : op = 2 ∨ op = 10 ∨ op = 11) (h : ordE rg m lk sz op a b c = 0) : (0 ≤ a ∧ a < rg) ∧ (0 ≤ b ∧ b < rg) := by
  have hk : kd op = some (1, 1, 0) := by rcases ho with rfl | rfl | rfl <;> rfl
  have := ok_three hk h
  exact ⟨okN_reg this.1, okN_reg this.2.1⟩
theorem ok_load (h : ordE rg m lk sz 8 a b c = 0) : (0 ≤ a ∧ a < rg) ∧ (0 ≤ b ∧ b < m) := by
  have := ok_three (op := 8) rfl h
  exact ⟨okN_reg this.1, okN_word this.2.1⟩
theorem ok_store (h : ordE rg m lk sz 9 a b c = 0) : (0 ≤ a ∧ a < m) ∧ (0 ≤ b ∧ b < rg) := by
  have := ok_three (op := 9) rfl h
  exact ⟨okN_word this.1, okN_reg this.2.1⟩
theorem ok_cas (h : ordE rg m lk sz 13 a b c = 0) : (0 ≤ a ∧ a < m) ∧ (0 ≤ b ∧ b < rg) ∧ (0 ≤ c ∧ c < rg) := by
  have := ok_three (op := 13) rfl h
  exact ⟨okN_word this.1, okN_reg this.2.1, okN_reg this.2.2⟩
theorem ok_jump (h : ordE rg m lk sz 14 a b c = 0) : 0 ≤ a ∧ a ≤ sz := okN_place (ok_three (op := 14) rfl h).1
theorem ok_zero (h : ordE rg m lk sz 15 a b c = 0) : (0 ≤ a ∧ a < rg) ∧ (0 ≤ b ∧ b ≤ sz) := by
  have := ok_three (op := 15) rfl h
  exact ⟨okN_reg this.1, okN_place this.2.1⟩
theorem ok_print (h : ordE rg m lk sz 16 a b c = 0) : 0 ≤ a ∧ a < rg := okN_reg (ok_three (op := 16) rfl h).1
end
theorem toN {a : Int} {n : Nat} (h : 0 ≤ a ∧ a < n) : ∃ k : Nat, a = k ∧ k < n := ⟨a.toNat, by omega, by omega⟩
end

section
open Go.RowKit

/-- The registers that an order reads; the one that it writes, -1: none; where it leads on. -/
def rdL (op a b c : Int) : List Int :=
  if op = 2 ∨ op = 9 ∨ op = 10 then [b] else if op = 3 ∨ op = 4 ∨ op = 5 ∨ op = 6 ∨ op = 7 ∨ op = 13 then [b, c] else if op = 11 then [a, b] else if op = 15 ∨ op = 16 then [a] else []
def wrL (op a b : Int) : Int :=
  if op = 1 ∨ op = 2 ∨ op = 3 ∨ op = 4 ∨ op = 5 ∨ op = 6 ∨ op = 7 ∨ op = 8 ∨ op = 10 then a else if op = 13 then b else -1
def nxL (op a b : Int) (i : Nat) : List Nat := if op = 14 then [a.toNat] else if op = 15 then [i + 1, b.toNat] else [i + 1]

def rdX (X : Nat → Nat → Int) (i : Nat) : List Int := rdL (X i 0) (X i 1) (X i 2) (X i 3)
def wrX (X : Nat → Nat → Int) (i : Nat) : Int := wrL (X i 0) (X i 1) (X i 2)
def nxP (X : Nat → Nat → Int) (i : Nat) : List Nat := nxL (X i 0) (X i 1) (X i 2) i

/-- Register r is live ahead of order i of l. -/
inductive Lv (X : Nat → Nat → Int) (l r : Nat) : Nat → Prop
  | read {i : Nat} (h : i < l) (hr : (r : Int) ∈ rdX X i) : Lv X l r i
  | pass {i j : Nat} (h : i < l) (hw : wrX X i ≠ (r : Int)) (hj : j ∈ nxP X i) (hl : Lv X l r j) : Lv X l r i
/-- Live behind order i. -/
def Bh (X : Nat → Nat → Int) (l r i : Nat) : Prop := ∃ j, j ∈ nxP X i ∧ Lv X l r j
theorem lv_iff {X : Nat → Nat → Int} {l r i : Nat} (hi : i < l) : Lv X l r i ↔ (r : Int) ∈ rdX X i ∨ (wrX X i ≠ (r : Int) ∧ Bh X l r i) := by
  constructor
  · intro h
    cases h with
    | read _ hr => exact Or.inl hr
    | pass _ hw hj hl => exact Or.inr ⟨hw, _, hj, hl⟩
  · rintro (h | ⟨h, j, hj, hl⟩)
    · exact .read hi h
    · exact .pass hi h hj hl
/-! What an order of a program that may be reads, writes, where it leads. -/
section
variable {rg m lk sz : Nat} {op a b c : Int}
theorem ok_lead (h : ordE rg m lk sz op a b c = 0) : (op = 14 → 0 ≤ a ∧ a ≤ sz) ∧ (op = 15 → 0 ≤ b ∧ b ≤ sz) := by
  refine ⟨fun e => ?_, fun e => ?_⟩
  · subst e; exact ok_jump h
  · subst e; exact (ok_zero h).2
theorem ok_wr (h : ordE rg m lk sz op a b c = 0) : wrL op a b = -1 ∨ 0 ≤ wrL op a b ∧ wrL op a b < rg := by
  have ho := ok_op h
  rcases (by omega : op = 1 ∨ op = 2 ∨ op = 3 ∨ op = 4 ∨ op = 5 ∨ op = 6 ∨ op = 7 ∨ op = 8 ∨ op = 9 ∨ op = 10 ∨ op = 11 ∨ op = 12 ∨ op = 13 ∨ op = 14 ∨ op = 15 ∨ op = 16 ∨ op = 17 ∨ op = 18) with rfl | rfl | rfl | rfl | rfl | rfl | rfl | rfl | rfl | rfl | rfl | rfl | rfl | rfl | rfl | rfl | rfl | rfl
  · exact Or.inr (ok_const h)
  · exact Or.inr (ok_rr (by omega) h).1
  · exact Or.inr (ok_rrr (by omega) h).1
  · exact Or.inr (ok_rrr (by omega) h).1
  · exact Or.inr (ok_rrr (by omega) h).1
  · exact Or.inr (ok_rrr (by omega) h).1
  · exact Or.inr (ok_rrr (by omega) h).1
  · exact Or.inr (ok_load h).1
  · exact Or.inl rfl
  · exact Or.inr (ok_rr (by omega) h).1
  · exact Or.inl rfl
  · exact Or.inl rfl
  · exact Or.inr (ok_cas h).2.1
  all_goals exact Or.inl rfl
theorem ok_rd (h : ordE rg m lk sz op a b c = 0) : ∀ r, r ∈ rdL op a b c → 0 ≤ r ∧ r < rg := by
  have ho := ok_op h
  have one : ∀ {x : Int}, (0 ≤ x ∧ x < rg) → ∀ r, r ∈ [x] → 0 ≤ r ∧ r < rg := fun hx r hr => by simp only [List.mem_singleton] at hr; subst hr; exact hx
  have two : ∀ {x y : Int}, (0 ≤ x ∧ x < rg) → (0 ≤ y ∧ y < rg) → ∀ r, r ∈ [x, y] → 0 ≤ r ∧ r < rg := fun hx hy r hr => by
    simp only [List.mem_cons, List.not_mem_nil, or_false] at hr
    rcases hr with rfl | rfl
    · exact hx
    · exact hy
  have none : ∀ r, r ∈ ([] : List Int) → 0 ≤ r ∧ r < (rg : Int) := fun r hr => by cases hr
  rcases (by omega : op = 1 ∨ op = 2 ∨ op = 3 ∨ op = 4 ∨ op = 5 ∨ op = 6 ∨ op = 7 ∨ op = 8 ∨ op = 9 ∨ op = 10 ∨ op = 11 ∨ op = 12 ∨ op = 13 ∨ op = 14 ∨ op = 15 ∨ op = 16 ∨ op = 17 ∨ op = 18) with rfl | rfl | rfl | rfl | rfl | rfl | rfl | rfl | rfl | rfl | rfl | rfl | rfl | rfl | rfl | rfl | rfl | rfl
  · exact none
  · exact one (ok_rr (by omega) h).2
  · exact two (ok_rrr (by omega) h).2.1 (ok_rrr (by omega) h).2.2
  · exact two (ok_rrr (by omega) h).2.1 (ok_rrr (by omega) h).2.2
  · exact two (ok_rrr (by omega) h).2.1 (ok_rrr (by omega) h).2.2
  · exact two (ok_rrr (by omega) h).2.1 (ok_rrr (by omega) h).2.2
  · exact two (ok_rrr (by omega) h).2.1 (ok_rrr (by omega) h).2.2
  · exact none
  · exact one (ok_store h).2
  · exact one (ok_rr (by omega) h).2
  · exact two (ok_rr (by omega) h).1 (ok_rr (by omega) h).2
  · exact none
  · exact two (ok_cas h).2.1 (ok_cas h).2.2
  · exact none
  · exact one (ok_zero h).1
  · exact one (ok_print h)
  · exact none
  · exact none
theorem ok_nx {i : Nat} (hi : i < sz) (h : ordE rg m lk sz op a b c = 0) : ∀ j, j ∈ nxL op a b i → j ≤ sz := fun j hj => by
  have hle := ok_lead h
  unfold nxL at hj
  split at hj
  · rename_i e
    have := hle.1 e
    simp only [List.mem_singleton] at hj
    omega
  · split at hj
    · rename_i e
      have := hle.2 e
      simp only [List.mem_cons, List.not_mem_nil, or_false] at hj
      omega
    · simp only [List.mem_singleton] at hj
      omega
end
theorem nxL_len (op a b : Int) (i : Nat) : (nxL op a b i).length ≤ 2 := by
  unfold nxL
  split
  · simp
  · split <;> simp
/-- What is live is a register. -/
theorem Lv.reg {X : Nat → Nat → Int} {l r i rg m lk : Nat} (hok : ∀ i, i < l → ordE rg m lk l (X i 0) (X i 1) (X i 2) (X i 3) = 0) (h : Lv X l r i) : r < rg := by
  induction h with
  | read hi hr => have := ok_rd (hok _ hi) _ hr; omega
  | pass _ _ _ _ ih => exact ih
/-! One register: the document's passes, from the last order on. -/
/-- Is it live ahead of i, as the truths of later ones stand? -/
def nB (X : Nat → Nat → Int) (r : Nat) (R : List Bool) (i : Nat) : Bool := (rdX X i).any (fun x => x == (r : Int)) || (decide (wrX X i ≠ (r : Int)) && (nxP X i).any (fun j => R.getD j false))
theorem nB_sound {X : Nat → Nat → Int} {l r : Nat} {R : List Bool} (h : ∀ j, R.getD j false = true → Lv X l r j) {i : Nat} (hi : i < l) (hb : nB X r R i = true) : Lv X l r i := by
  unfold nB at hb
  rw [Bool.or_eq_true, Bool.and_eq_true, List.any_eq_true, List.any_eq_true] at hb
  rcases hb with ⟨x, hx, e⟩ | ⟨hw, j, hj, e⟩
  · have : x = (r : Int) := by simpa using e
    subst this
    exact .read hi hx
  · exact .pass hi (by simpa using hw) hj (h j e)
theorem nB_whole {X : Nat → Nat → Int} {l r : Nat} {R : List Bool} (h : ∀ i, i < l → nB X r R i = true → R.getD i false = true) {i : Nat} (hl : Lv X l r i) : R.getD i false = true := by
  induction hl with
  | read hi hr =>
    refine h _ hi ?_
    unfold nB
    rw [Bool.or_eq_true, List.any_eq_true]
    exact Or.inl ⟨_, hr, by simp⟩
  | pass hi hw hj _ ih =>
    refine h _ hi ?_
    unfold nB
    rw [Bool.or_eq_true, Bool.and_eq_true, List.any_eq_true, List.any_eq_true]
    exact Or.inr ⟨by simpa using hw, _, hj, ih⟩
/-- A pass: R as it began, Q as it is, k orders still to come; ag: has one been turned? -/
structure PasL (X : Nat → Nat → Int) (l r : Nat) (R Q : List Bool) (k : Nat) (ag : Bool) : Prop where
  len : Q.length = l + 1
  kl : k ≤ l
  sound : ∀ j, Q.getD j false = true → Lv X l r j
  same : ag = false → Q = R ∧ ∀ i, k ≤ i → i < l → nB X r R i = true → R.getD i false = true
  less : ag = true → cntF Q < cntF R
section
variable {X : Nat → Nat → Int} {l r : Nat} {R Q : List Bool} {k : Nat} {ag : Bool}
theorem PasL.begin (hl : R.length = l + 1) (hs : ∀ j, R.getD j false = true → Lv X l r j) : PasL X l r R R l false :=
  ⟨hl, Nat.le_refl _, hs, fun _ => ⟨rfl, fun i h1 h2 => absurd h2 (by omega)⟩, fun h => by cases h⟩
theorem PasL.turn (h : PasL X l r R Q (k + 1) ag) (hb : nB X r Q k = true) (hq : Q.getD k false = false) : PasL X l r R (Q.set k true) k true := by
  have hk := h.kl
  have hjl : k < Q.length := by rw [h.len]; omega
  have hlt : cntF (Q.set k true) < cntF Q := cnt_set (by
    rw [List.getD_eq_getElem?_getD, List.getElem?_eq_getElem hjl] at hq ⊢
    exact hq)
  refine ⟨by simpa using h.len, by omega, fun j hj => ?_, (fun e => by cases e), fun _ => ?_⟩
  · rw [getD_setT hjl] at hj
    split at hj
    · rename_i e
      rw [e]
      exact nB_sound h.sound (by omega) hb
    · exact h.sound j hj
  · cases ag with
    | true => exact Nat.lt_trans hlt (h.less rfl)
    | false => rw [(h.same rfl).1] at hlt ⊢; exact hlt
theorem PasL.stay (h : PasL X l r R Q (k + 1) ag) (hb : nB X r Q k = false ∨ Q.getD k false = true) : PasL X l r R Q k ag := by
  refine ⟨h.len, by have := h.kl; omega, h.sound, fun e => ⟨(h.same e).1, fun i hi hil hn => ?_⟩, h.less⟩
  by_cases ei : i = k
  · subst ei
    have e1 := (h.same e).1
    rw [e1] at hb
    rcases hb with hb | hb
    · rw [hb] at hn; cases hn
    · exact hb
  · exact (h.same e).2 i (by omega) hil hn
theorem PasL.done (h : PasL X l r R Q 0 false) : ∀ i, Q.getD i false = true ↔ Lv X l r i := fun i => by
  obtain ⟨h1, h2⟩ := h.same rfl
  subst h1
  exact ⟨h.sound i, nB_whole fun i hi => h2 i (Nat.zero_le _) hi⟩
end

/-- An order that does nothing but to make something of its A, which is not live behind it. -/
def deadO (X : Nat → Nat → Int) (l i : Nat) : Prop := (1 ≤ X i 0 ∧ X i 0 ≤ 8) ∧ ∀ r : Nat, X i 1 = (r : Int) → ¬ Lv X l r (i + 1)
end

section
open Go.RowKit

/-- What waits: a store into a word, or that a lock becomes free. -/
structure Wt where
  lk : Bool
  wh : Int
  what : Int
deriving DecidableEq, Inhabited
/-- A thread of a run. -/
structure Th where
  pc : Nat
  regs : List Int
  wait : List Wt
deriving DecidableEq, Inhabited
/-- The state of a run. -/
structure Sx where
  ths : List Th
  words : List Int
  own : List Int
  prints : List Int
  fell : Bool
deriving DecidableEq, Inhabited

section
variable (L : Nat → Nat) (X : Nat → Nat → Nat → Int)

def bitI (b : Bool) : Int := if b then 1 else 0
end
end

section
open Go.RowKit

theorem bad_none {E : Nat → Int} : ∀ (f k : Nat), firstBad E f k = none → ∀ i, k ≤ i → i < k + f → E i = 0
  | 0, k, _, i, h1, h2 => by omega
  | f + 1, k, h, i, h1, h2 => by
    rw [firstBad] at h
    split at h
    · rename_i h0
      by_cases e : i = k
      · subst e; exact h0
      · exact bad_none f (k + 1) h i (by omega) (by omega)
    · cases h
theorem thread_ok {R : Nat → Option (Int × Int)} (hR : ∀ t c a, R t = some (c, a) → c ≠ 0) : ∀ (f k : Nat), (firstThread R f k).1 = 0 → ∀ i, k ≤ i → i < k + f → R i = none
  | 0, k, _, i, h1, h2 => by omega
  | f + 1, k, h, i, h1, h2 => by
    rw [firstThread] at h
    split at h
    · rename_i h0
      by_cases e : i = k
      · subst e; exact h0
      · exact thread_ok hR f (k + 1) h i (by omega) (by omega)
    · rename_i c a h0
      exact absurd h (hR k c a h0)
theorem thread_zero {R : Nat → Option (Int × Int)} (hR : ∀ t c a, R t = some (c, a) → c ≠ 0) : ∀ (f k : Nat), (firstThread R f k).1 = 0 → firstThread R f k = (0, 0, 0)
  | 0, _, _ => rfl
  | f + 1, k, h => by
    rw [firstThread] at h ⊢
    split at h
    · exact thread_zero hR f (k + 1) h
    · rename_i c a h0
      exact absurd h (hR k c a h0)
theorem bad_ne {E : Nat → Int} : ∀ (f k : Nat) (c a : Int), firstBad E f k = some (c, a) → c ≠ 0
  | 0, k, c, a, h => by simp [firstBad] at h
  | f + 1, k, c, a, h => by
    rw [firstBad] at h
    split at h
    · exact bad_ne f (k + 1) c a h
    · rename_i h0
      simp only [Option.some.injEq, Prod.mk.injEq] at h
      rw [← h.1]; exact h0
theorem thr_ne {rg wd lk : Int} {L : Nat → Nat} {X : Nat → Nat → Nat → Int} : ∀ t c a, thr rg wd lk L X t = some (c, a) → c ≠ 0 := fun t c a e => by
  unfold thr at e
  split at e
  · simp at e; omega
  · exact bad_ne _ _ _ _ e

/-- What Check lets pass: the sizes, every order. -/
theorem chk_cok {n m : Nat} {L : Nat → Nat} {X : Nat → Nat → Nat → Int} {lk rg x y z : Int} (h : chk n L X m lk rg = (x, y, z)) (hx : x = 0) : y = 0 ∧ z = 0 ∧ 0 < n ∧ ∃ lk' rg' : Nat, lk = lk' ∧ rg = rg' ∧ COk n L X m lk' rg' := by
  subst hx
  unfold chk at h
  split at h
  · rename_i h1
    simp only [Prod.mk.injEq] at h
    exact absurd h.1 h1
  · rename_i h1
    have h1 : sizesE n m lk rg = 0 := by simpa using h1
    unfold sizesE at h1
    split at h1
    · cases h1
    · split at h1
      · cases h1
      · rename_i h2 h3
        have hz := thread_zero thr_ne n 0 (by rw [h])
        rw [h] at hz
        simp only [Prod.mk.injEq] at hz
        have hR : ∀ t, t < n → thr rg m lk L X t = none := fun t ht => thread_ok thr_ne n 0 (by rw [h]) t (Nat.zero_le _) (by omega)
        have hL : ∀ t, t < n → L t ≤ 400 ∧ firstBad (fun i => ordE rg m lk (L t) (X t i 0) (X t i 1) (X t i 2) (X t i 3)) (L t) 0 = none := fun t ht => by
          have := hR t ht
          unfold thr at this
          split at this
          · cases this
          · exact ⟨by omega, this⟩
        obtain ⟨lk', rfl⟩ := Int.eq_ofNat_of_zero_le (by omega : 0 ≤ lk)
        obtain ⟨rg', rfl⟩ := Int.eq_ofNat_of_zero_le (by omega : 0 ≤ rg)
        exact ⟨hz.2.1, hz.2.2, by omega, lk', rg', rfl, rfl, by omega, fun t ht => Nat.le_trans (hL t ht).1 (by decide), by omega, by omega, by omega, by omega, fun t i ht hi => bad_none (L t) 0 (hL t ht).2 i (Nat.zero_le _) (by omega)⟩
end

section
open Go.RowKit

/-- The rows of a state. -/
inductive Rl where
  | box
  | thr
  | words
  | own
  | prints
  | regs (t : Nat)
  | wait (t : Nat)
deriving DecidableEq

/-- A program as a value, and the mode. -/
structure Pg where
  ca : Option Addr
  n : Nat
  cc : Nat
  wa : Option Addr
  m : Nat
  wc : Nat
  lk : Int
  rg : Int
  mode : Int
section
variable {w w1 : World} {B : Nat} {P : Pg} {sb : Nat} {v : Rl → Value} {s : Sx}

end
end

section
open Go.RowKit

section
variable {w w1 : World} {B : Nat} {P : Pg} {sb : Nat} {v : Rl → Value} {s : Sx}
end
/-- The state's box alone. -/
def v0 (sb : Nat) : Rl → Value := fun q => if q = .box then boxV sb else nilV
def s0 : Sx := { ths := [], words := [], own := [], prints := [], fell := false }
end

end Go.Proofs.YtkailbdjilkneaaDoor
