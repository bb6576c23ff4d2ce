/-
  What chapter 13 says of registers that are live, and of those that clash: least sets, and the passes that find them.
-/
import Derived.Test.YtocfocjnnjdcgaaDoorCOkP
import Derived.Test.YtocfocjnnjdcgaaDoorPlain
namespace Go.Proofs.YtocfocjnnjdcgaaDoor
open Go.RowKit

/-- The registers that an order reads; the one that it writes, -1: none; where it leads on. -/
def rdL (op a b c : Int) : List Int :=
  if op = 2 ∨ op = 9 ∨ op = 10 then [b] else if op = 3 ∨ op = 4 ∨ op = 5 ∨ op = 6 ∨ op = 7 ∨ op = 13 then [b, c] else if op = 11 then [a, b] else if op = 15 ∨ op = 16 then [a] else []
def wrL (op a b : Int) : Int :=
  if op = 1 ∨ op = 2 ∨ op = 3 ∨ op = 4 ∨ op = 5 ∨ op = 6 ∨ op = 7 ∨ op = 8 ∨ op = 10 then a else if op = 13 then b else -1
def nxL (op a b : Int) (i : Nat) : List Nat := if op = 14 then [a.toNat] else if op = 15 then [i + 1, b.toNat] else [i + 1]

def rdX (X : Nat → Nat → Int) (i : Nat) : List Int := rdL (X i 0) (X i 1) (X i 2) (X i 3)
def wrX (X : Nat → Nat → Int) (i : Nat) : Int := wrL (X i 0) (X i 1) (X i 2)
def nxP (X : Nat → Nat → Int) (i : Nat) : List Nat := nxL (X i 0) (X i 1) (X i 2) i

/-- Register r is live ahead of order i of l. -/
inductive Lv (X : Nat → Nat → Int) (l r : Nat) : Nat → Prop
  | read {i : Nat} (h : i < l) (hr : (r : Int) ∈ rdX X i) : Lv X l r i
  | pass {i j : Nat} (h : i < l) (hw : wrX X i ≠ (r : Int)) (hj : j ∈ nxP X i) (hl : Lv X l r j) : Lv X l r i
/-- Live behind order i. -/
def Bh (X : Nat → Nat → Int) (l r i : Nat) : Prop := ∃ j, j ∈ nxP X i ∧ Lv X l r j
theorem lv_iff {X : Nat → Nat → Int} {l r i : Nat} (hi : i < l) : Lv X l r i ↔ (r : Int) ∈ rdX X i ∨ (wrX X i ≠ (r : Int) ∧ Bh X l r i) := by
  constructor
  · intro h
    cases h with
    | read _ hr => exact Or.inl hr
    | pass _ hw hj hl => exact Or.inr ⟨hw, _, hj, hl⟩
  · rintro (h | ⟨h, j, hj, hl⟩)
    · exact .read hi h
    · exact .pass hi h hj hl
/-- Registers a and b clash. -/
def Cl (X : Nat → Nat → Int) (l a b : Nat) : Prop := a ≠ b ∧ ∃ i, i < l ∧ ((wrX X i = (a : Int) ∧ Bh X l b i) ∨ (wrX X i = (b : Int) ∧ Bh X l a i))
/-! What an order of a program that may be reads, writes, where it leads. -/
section
variable {rg m lk sz : Nat} {op a b c : Int}
theorem ok_lead (h : ordE rg m lk sz op a b c = 0) : (op = 14 → 0 ≤ a ∧ a ≤ sz) ∧ (op = 15 → 0 ≤ b ∧ b ≤ sz) := by
  refine ⟨fun e => ?_, fun e => ?_⟩
  · subst e; exact ok_jump h
  · subst e; exact (ok_zero h).2
theorem ok_wr (h : ordE rg m lk sz op a b c = 0) : wrL op a b = -1 ∨ 0 ≤ wrL op a b ∧ wrL op a b < rg := by
  have ho := ok_op h
  rcases (by omega : op = 1 ∨ op = 2 ∨ op = 3 ∨ op = 4 ∨ op = 5 ∨ op = 6 ∨ op = 7 ∨ op = 8 ∨ op = 9 ∨ op = 10 ∨ op = 11 ∨ op = 12 ∨ op = 13 ∨ op = 14 ∨ op = 15 ∨ op = 16 ∨ op = 17 ∨ op = 18) with rfl | rfl | rfl | rfl | rfl | rfl | rfl | rfl | rfl | rfl | rfl | rfl | rfl | rfl | rfl | rfl | rfl | rfl
  · exact Or.inr (ok_const h)
  · exact Or.inr (ok_rr (by omega) h).1
  · exact Or.inr (ok_rrr (by omega) h).1
  · exact Or.inr (ok_rrr (by omega) h).1
  · exact Or.inr (ok_rrr (by omega) h).1
  · exact Or.inr (ok_rrr (by omega) h).1
  · exact Or.inr (ok_rrr (by omega) h).1
  · exact Or.inr (ok_load h).1
  · exact Or.inl rfl
  · exact Or.inr (ok_rr (by omega) h).1
  · exact Or.inl rfl
  · exact Or.inl rfl
  · exact Or.inr (ok_cas h).2.1
  all_goals exact Or.inl rfl
theorem ok_rd (h : ordE rg m lk sz op a b c = 0) : ∀ r, r ∈ rdL op a b c → 0 ≤ r ∧ r < rg := by
  have ho := ok_op h
  have one : ∀ {x : Int}, (0 ≤ x ∧ x < rg) → ∀ r, r ∈ [x] → 0 ≤ r ∧ r < rg := fun hx r hr => by simp only [List.mem_singleton] at hr; subst hr; exact hx
  have two : ∀ {x y : Int}, (0 ≤ x ∧ x < rg) → (0 ≤ y ∧ y < rg) → ∀ r, r ∈ [x, y] → 0 ≤ r ∧ r < rg := fun hx hy r hr => by
    simp only [List.mem_cons, List.not_mem_nil, or_false] at hr
    rcases hr with rfl | rfl
    · exact hx
    · exact hy
  have none : ∀ r, r ∈ ([] : List Int) → 0 ≤ r ∧ r < (rg : Int) := fun r hr => by cases hr
  rcases (by omega : op = 1 ∨ op = 2 ∨ op = 3 ∨ op = 4 ∨ op = 5 ∨ op = 6 ∨ op = 7 ∨ op = 8 ∨ op = 9 ∨ op = 10 ∨ op = 11 ∨ op = 12 ∨ op = 13 ∨ op = 14 ∨ op = 15 ∨ op = 16 ∨ op = 17 ∨ op = 18) with rfl | rfl | rfl | rfl | rfl | rfl | rfl | rfl | rfl | rfl | rfl | rfl | rfl | rfl | rfl | rfl | rfl | rfl
  · exact none
  · exact one (ok_rr (by omega) h).2
  · exact two (ok_rrr (by omega) h).2.1 (ok_rrr (by omega) h).2.2
  · exact two (ok_rrr (by omega) h).2.1 (ok_rrr (by omega) h).2.2
  · exact two (ok_rrr (by omega) h).2.1 (ok_rrr (by omega) h).2.2
  · exact two (ok_rrr (by omega) h).2.1 (ok_rrr (by omega) h).2.2
  · exact two (ok_rrr (by omega) h).2.1 (ok_rrr (by omega) h).2.2
  · exact none
  · exact one (ok_store h).2
  · exact one (ok_rr (by omega) h).2
  · exact two (ok_rr (by omega) h).1 (ok_rr (by omega) h).2
  · exact none
  · exact two (ok_cas h).2.1 (ok_cas h).2.2
  · exact none
  · exact one (ok_zero h).1
  · exact one (ok_print h)
  · exact none
  · exact none
theorem ok_nx {i : Nat} (hi : i < sz) (h : ordE rg m lk sz op a b c = 0) : ∀ j, j ∈ nxL op a b i → j ≤ sz := fun j hj => by
  have hle := ok_lead h
  unfold nxL at hj
  split at hj
  · rename_i e
    have := hle.1 e
    simp only [List.mem_singleton] at hj
    omega
  · split at hj
    · rename_i e
      have := hle.2 e
      simp only [List.mem_cons, List.not_mem_nil, or_false] at hj
      omega
    · simp only [List.mem_singleton] at hj
      omega
end
theorem nxL_len (op a b : Int) (i : Nat) : (nxL op a b i).length ≤ 2 := by
  unfold nxL
  split
  · simp
  · split <;> simp
/-- What is live is a register. -/
theorem Lv.reg {X : Nat → Nat → Int} {l r i rg m lk : Nat} (hok : ∀ i, i < l → ordE rg m lk l (X i 0) (X i 1) (X i 2) (X i 3) = 0) (h : Lv X l r i) : r < rg := by
  induction h with
  | read hi hr => have := ok_rd (hok _ hi) _ hr; omega
  | pass _ _ _ _ ih => exact ih
theorem Bh.reg {X : Nat → Nat → Int} {l r i rg m lk : Nat} (hok : ∀ i, i < l → ordE rg m lk l (X i 0) (X i 1) (X i 2) (X i 3) = 0) (h : Bh X l r i) : r < rg := by
  obtain ⟨j, _, hj⟩ := h
  exact hj.reg hok
theorem Cl.reg {X : Nat → Nat → Int} {l a b rg m lk : Nat} (hok : ∀ i, i < l → ordE rg m lk l (X i 0) (X i 1) (X i 2) (X i 3) = 0) (h : Cl X l a b) : a < rg ∧ b < rg := by
  obtain ⟨_, i, hi, ⟨h1, h2⟩ | ⟨h1, h2⟩⟩ := h
  · have := ok_wr (hok i hi)
    have h3 : wrL (X i 0) (X i 1) (X i 2) = (a : Int) := h1
    have := h2.reg hok
    omega
  · have := ok_wr (hok i hi)
    have h3 : wrL (X i 0) (X i 1) (X i 2) = (b : Int) := h1
    have := h2.reg hok
    omega

/-! One register: the document's passes, from the last order on. -/
/-- Is it live ahead of i, as the truths of later ones stand? -/
def nB (X : Nat → Nat → Int) (r : Nat) (R : List Bool) (i : Nat) : Bool := (rdX X i).any (fun x => x == (r : Int)) || (decide (wrX X i ≠ (r : Int)) && (nxP X i).any (fun j => R.getD j false))
theorem nB_sound {X : Nat → Nat → Int} {l r : Nat} {R : List Bool} (h : ∀ j, R.getD j false = true → Lv X l r j) {i : Nat} (hi : i < l) (hb : nB X r R i = true) : Lv X l r i := by
  unfold nB at hb
  rw [Bool.or_eq_true, Bool.and_eq_true, List.any_eq_true, List.any_eq_true] at hb
  rcases hb with ⟨x, hx, e⟩ | ⟨hw, j, hj, e⟩
  · have : x = (r : Int) := by simpa using e
    subst this
    exact .read hi hx
  · exact .pass hi (by simpa using hw) hj (h j e)
theorem nB_whole {X : Nat → Nat → Int} {l r : Nat} {R : List Bool} (h : ∀ i, i < l → nB X r R i = true → R.getD i false = true) {i : Nat} (hl : Lv X l r i) : R.getD i false = true := by
  induction hl with
  | read hi hr =>
    refine h _ hi ?_
    unfold nB
    rw [Bool.or_eq_true, List.any_eq_true]
    exact Or.inl ⟨_, hr, by simp⟩
  | pass hi hw hj _ ih =>
    refine h _ hi ?_
    unfold nB
    rw [Bool.or_eq_true, Bool.and_eq_true, List.any_eq_true, List.any_eq_true]
    exact Or.inr ⟨by simpa using hw, _, hj, ih⟩
/-- A pass: R as it began, Q as it is, k orders still to come; ag: has one been turned? -/
structure PasL (X : Nat → Nat → Int) (l r : Nat) (R Q : List Bool) (k : Nat) (ag : Bool) : Prop where
  len : Q.length = l + 1
  kl : k ≤ l
  sound : ∀ j, Q.getD j false = true → Lv X l r j
  same : ag = false → Q = R ∧ ∀ i, k ≤ i → i < l → nB X r R i = true → R.getD i false = true
  less : ag = true → cntF Q < cntF R
section
variable {X : Nat → Nat → Int} {l r : Nat} {R Q : List Bool} {k : Nat} {ag : Bool}
theorem PasL.begin (hl : R.length = l + 1) (hs : ∀ j, R.getD j false = true → Lv X l r j) : PasL X l r R R l false :=
  ⟨hl, Nat.le_refl _, hs, fun _ => ⟨rfl, fun i h1 h2 => absurd h2 (by omega)⟩, fun h => by cases h⟩
theorem PasL.turn (h : PasL X l r R Q (k + 1) ag) (hb : nB X r Q k = true) (hq : Q.getD k false = false) : PasL X l r R (Q.set k true) k true := by
  have hk := h.kl
  have hjl : k < Q.length := by rw [h.len]; omega
  have hlt : cntF (Q.set k true) < cntF Q := cnt_set (by
    rw [List.getD_eq_getElem?_getD, List.getElem?_eq_getElem hjl] at hq ⊢
    exact hq)
  refine ⟨by simpa using h.len, by omega, fun j hj => ?_, (fun e => by cases e), fun _ => ?_⟩
  · rw [getD_setT hjl] at hj
    split at hj
    · rename_i e
      rw [e]
      exact nB_sound h.sound (by omega) hb
    · exact h.sound j hj
  · cases ag with
    | true => exact Nat.lt_trans hlt (h.less rfl)
    | false => rw [(h.same rfl).1] at hlt ⊢; exact hlt
theorem PasL.stay (h : PasL X l r R Q (k + 1) ag) (hb : nB X r Q k = false ∨ Q.getD k false = true) : PasL X l r R Q k ag := by
  refine ⟨h.len, by have := h.kl; omega, h.sound, fun e => ⟨(h.same e).1, fun i hi hil hn => ?_⟩, h.less⟩
  by_cases ei : i = k
  · subst ei
    have e1 := (h.same e).1
    rw [e1] at hb
    rcases hb with hb | hb
    · rw [hb] at hn; cases hn
    · exact hb
  · exact (h.same e).2 i (by omega) hil hn
theorem PasL.done (h : PasL X l r R Q 0 false) : ∀ i, Q.getD i false = true ↔ Lv X l r i := fun i => by
  obtain ⟨h1, h2⟩ := h.same rfl
  subst h1
  exact ⟨h.sound i, nB_whole fun i hi => h2 i (Nat.zero_le _) hi⟩
end

end Go.Proofs.YtocfocjnnjdcgaaDoor
