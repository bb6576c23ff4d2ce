/-
  What chapter 13 says of registers that are live, and of those that clash: least sets, and the passes that find them.
  Sets of registers as four words each: what they hold; the program's passes over them.
-/
import Derived.Test.YtocfocjnnjdcgaaDoorCOkP
import Derived.Test.YtocfocjnnjdcgaaDoorBase
import Derived.Laws.Bits64b
import Derived.Lib.TrailingZeros
namespace Go.Proofs.YtocfocjnnjdcgaaDoor
section
open Go.RowKit

/-- The registers that an order reads; the one that it writes, -1: none; where it leads on. -/
def rdL (op a b c : Int) : List Int :=
  if op = 2 ∨ op = 9 ∨ op = 10 then [b] else if op = 3 ∨ op = 4 ∨ op = 5 ∨ op = 6 ∨ op = 7 ∨ op = 13 then [b, c] else if op = 11 then [a, b] else if op = 15 ∨ op = 16 then [a] else []
def wrL (op a b : Int) : Int :=
  if op = 1 ∨ op = 2 ∨ op = 3 ∨ op = 4 ∨ op = 5 ∨ op = 6 ∨ op = 7 ∨ op = 8 ∨ op = 10 then a else if op = 13 then b else -1
def nxL (op a b : Int) (i : Nat) : List Nat := if op = 14 then [a.toNat] else if op = 15 then [i + 1, b.toNat] else [i + 1]

def rdX (X : Nat → Nat → Int) (i : Nat) : List Int := rdL (X i 0) (X i 1) (X i 2) (X i 3)
def wrX (X : Nat → Nat → Int) (i : Nat) : Int := wrL (X i 0) (X i 1) (X i 2)
def nxP (X : Nat → Nat → Int) (i : Nat) : List Nat := nxL (X i 0) (X i 1) (X i 2) i

/-- Register r is live ahead of order i of l. -/
inductive Lv (X : Nat → Nat → Int) (l r : Nat) : Nat → Prop
  | read {i : Nat} (h : i < l) (hr : (r : Int) ∈ rdX X i) : Lv X l r i
  | pass {i j : Nat} (h : i < l) (hw : wrX X i ≠ (r : Int)) (hj : j ∈ nxP X i) (hl : Lv X l r j) : Lv X l r i
/-- Live behind order i. -/
def Bh (X : Nat → Nat → Int) (l r i : Nat) : Prop := ∃ j, j ∈ nxP X i ∧ Lv X l r j
theorem lv_iff {X : Nat → Nat → Int} {l r i : Nat} (hi : i < l) : Lv X l r i ↔ (r : Int) ∈ rdX X i ∨ (wrX X i ≠ (r : Int) ∧ Bh X l r i) := by
  constructor
  · intro h
    cases h with
    | read _ hr => exact Or.inl hr
    | pass _ hw hj hl => exact Or.inr ⟨hw, _, hj, hl⟩
  · rintro (h | ⟨h, j, hj, hl⟩)
    · exact .read hi h
    · exact .pass hi h hj hl
/-- Registers a and b clash. -/
def Cl (X : Nat → Nat → Int) (l a b : Nat) : Prop := a ≠ b ∧ ∃ i, i < l ∧ ((wrX X i = (a : Int) ∧ Bh X l b i) ∨ (wrX X i = (b : Int) ∧ Bh X l a i))
theorem Cl.symm {X : Nat → Nat → Int} {l a b : Nat} (h : Cl X l a b) : Cl X l b a := ⟨fun e => h.1 e.symm, by
  obtain ⟨_, i, hi, h1 | h1⟩ := h
  · exact ⟨i, hi, Or.inr h1⟩
  · exact ⟨i, hi, Or.inl h1⟩⟩

/-! What an order of a program that may be reads, writes, where it leads. -/
section
variable {rg m lk sz : Nat} {op a b c : Int}
theorem ok_lead (h : ordE rg m lk sz op a b c = 0) : (op = 14 → 0 ≤ a ∧ a ≤ sz) ∧ (op = 15 → 0 ≤ b ∧ b ≤ sz) := by
  refine ⟨fun e => ?_, fun e => ?_⟩
  · subst e; exact ok_jump h
  · subst e; exact (ok_zero h).2
theorem ok_wr (h : ordE rg m lk sz op a b c = 0) : wrL op a b = -1 ∨ 0 ≤ wrL op a b ∧ wrL op a b < rg := by
  have ho := ok_op h
  rcases (by omega : op = 1 ∨ op = 2 ∨ op = 3 ∨ op = 4 ∨ op = 5 ∨ op = 6 ∨ op = 7 ∨ op = 8 ∨ op = 9 ∨ op = 10 ∨ op = 11 ∨ op = 12 ∨ op = 13 ∨ op = 14 ∨ op = 15 ∨ op = 16 ∨ op = 17 ∨ op = 18) with rfl | rfl | rfl | rfl | rfl | rfl | rfl | rfl | rfl | rfl | rfl | rfl | rfl | rfl | rfl | rfl | rfl | rfl
  · exact Or.inr (ok_const h)
  · exact Or.inr (ok_rr (by omega) h).1
  · exact Or.inr (ok_rrr (by omega) h).1
  · exact Or.inr (ok_rrr (by omega) h).1
  · exact Or.inr (ok_rrr (by omega) h).1
  · exact Or.inr (ok_rrr (by omega) h).1
  · exact Or.inr (ok_rrr (by omega) h).1
  · exact Or.inr (ok_load h).1
  · exact Or.inl rfl
  · exact Or.inr (ok_rr (by omega) h).1
  · exact Or.inl rfl
  · exact Or.inl rfl
  · exact Or.inr (ok_cas h).2.1
  all_goals exact Or.inl rfl
theorem ok_rd (h : ordE rg m lk sz op a b c = 0) : ∀ r, r ∈ rdL op a b c → 0 ≤ r ∧ r < rg := by
  have ho := ok_op h
  have one : ∀ {x : Int}, (0 ≤ x ∧ x < rg) → ∀ r, r ∈ [x] → 0 ≤ r ∧ r < rg := fun hx r hr => by simp only [List.mem_singleton] at hr; subst hr; exact hx
  have two : ∀ {x y : Int}, (0 ≤ x ∧ x < rg) → (0 ≤ y ∧ y < rg) → ∀ r, r ∈ [x, y] → 0 ≤ r ∧ r < rg := fun hx hy r hr => by
    simp only [List.mem_cons, List.not_mem_nil, or_false] at hr
    rcases hr with rfl | rfl
    · exact hx
    · exact hy
  have none : ∀ r, r ∈ ([] : List Int) → 0 ≤ r ∧ r < (rg : Int) := fun r hr => by cases hr
  rcases (by omega : op = 1 ∨ op = 2 ∨ op = 3 ∨ op = 4 ∨ op = 5 ∨ op = 6 ∨ op = 7 ∨ op = 8 ∨ op = 9 ∨ op = 10 ∨ op = 11 ∨ op = 12 ∨ op = 13 ∨ op = 14 ∨ op = 15 ∨ op = 16 ∨ op = 17 ∨ op = 18) with rfl | rfl | rfl | rfl | rfl | rfl | rfl | rfl | rfl | rfl | rfl | rfl | rfl | rfl | rfl | rfl | rfl | rfl
  · exact none
  · exact one (ok_rr (by omega) h).2
  · exact two (ok_rrr (by omega) h).2.1 (ok_rrr (by omega) h).2.2
  · exact two (ok_rrr (by omega) h).2.1 (ok_rrr (by omega) h).2.2
  · exact two (ok_rrr (by omega) h).2.1 (ok_rrr (by omega) h).2.2
  · exact two (ok_rrr (by omega) h).2.1 (ok_rrr (by omega) h).2.2
  · exact two (ok_rrr (by omega) h).2.1 (ok_rrr (by omega) h).2.2
  · exact none
  · exact one (ok_store h).2
  · exact one (ok_rr (by omega) h).2
  · exact two (ok_rr (by omega) h).1 (ok_rr (by omega) h).2
  · exact none
  · exact two (ok_cas h).2.1 (ok_cas h).2.2
  · exact none
  · exact one (ok_zero h).1
  · exact one (ok_print h)
  · exact none
  · exact none
theorem ok_nx {i : Nat} (hi : i < sz) (h : ordE rg m lk sz op a b c = 0) : ∀ j, j ∈ nxL op a b i → j ≤ sz := fun j hj => by
  have hle := ok_lead h
  unfold nxL at hj
  split at hj
  · rename_i e
    have := hle.1 e
    simp only [List.mem_singleton] at hj
    omega
  · split at hj
    · rename_i e
      have := hle.2 e
      simp only [List.mem_cons, List.not_mem_nil, or_false] at hj
      omega
    · simp only [List.mem_singleton] at hj
      omega
end
theorem nxL_len (op a b : Int) (i : Nat) : (nxL op a b i).length ≤ 2 := by
  unfold nxL
  split
  · simp
  · split <;> simp
/-- What is live is a register. -/
theorem Lv.reg {X : Nat → Nat → Int} {l r i rg m lk : Nat} (hok : ∀ i, i < l → ordE rg m lk l (X i 0) (X i 1) (X i 2) (X i 3) = 0) (h : Lv X l r i) : r < rg := by
  induction h with
  | read hi hr => have := ok_rd (hok _ hi) _ hr; omega
  | pass _ _ _ _ ih => exact ih
theorem Bh.reg {X : Nat → Nat → Int} {l r i rg m lk : Nat} (hok : ∀ i, i < l → ordE rg m lk l (X i 0) (X i 1) (X i 2) (X i 3) = 0) (h : Bh X l r i) : r < rg := by
  obtain ⟨j, _, hj⟩ := h
  exact hj.reg hok
theorem Cl.reg {X : Nat → Nat → Int} {l a b rg m lk : Nat} (hok : ∀ i, i < l → ordE rg m lk l (X i 0) (X i 1) (X i 2) (X i 3) = 0) (h : Cl X l a b) : a < rg ∧ b < rg := by
  obtain ⟨_, i, hi, ⟨h1, h2⟩ | ⟨h1, h2⟩⟩ := h
  · have := ok_wr (hok i hi)
    have h3 : wrL (X i 0) (X i 1) (X i 2) = (a : Int) := h1
    have := h2.reg hok
    omega
  · have := ok_wr (hok i hi)
    have h3 : wrL (X i 0) (X i 1) (X i 2) = (b : Int) := h1
    have := h2.reg hok
    omega

/-! One register: the document's passes, from the last order on. -/
/-- Is it live ahead of i, as the truths of later ones stand? -/
def nB (X : Nat → Nat → Int) (r : Nat) (R : List Bool) (i : Nat) : Bool := (rdX X i).any (fun x => x == (r : Int)) || (decide (wrX X i ≠ (r : Int)) && (nxP X i).any (fun j => R.getD j false))
theorem nB_sound {X : Nat → Nat → Int} {l r : Nat} {R : List Bool} (h : ∀ j, R.getD j false = true → Lv X l r j) {i : Nat} (hi : i < l) (hb : nB X r R i = true) : Lv X l r i := by
  unfold nB at hb
  rw [Bool.or_eq_true, Bool.and_eq_true, List.any_eq_true, List.any_eq_true] at hb
  rcases hb with ⟨x, hx, e⟩ | ⟨hw, j, hj, e⟩
  · have : x = (r : Int) := by simpa using e
    subst this
    exact .read hi hx
  · exact .pass hi (by simpa using hw) hj (h j e)
theorem nB_whole {X : Nat → Nat → Int} {l r : Nat} {R : List Bool} (h : ∀ i, i < l → nB X r R i = true → R.getD i false = true) {i : Nat} (hl : Lv X l r i) : R.getD i false = true := by
  induction hl with
  | read hi hr =>
    refine h _ hi ?_
    unfold nB
    rw [Bool.or_eq_true, List.any_eq_true]
    exact Or.inl ⟨_, hr, by simp⟩
  | pass hi hw hj _ ih =>
    refine h _ hi ?_
    unfold nB
    rw [Bool.or_eq_true, Bool.and_eq_true, List.any_eq_true, List.any_eq_true]
    exact Or.inr ⟨by simpa using hw, _, hj, ih⟩
/-- A pass: R as it began, Q as it is, k orders still to come; ag: has one been turned? -/
structure PasL (X : Nat → Nat → Int) (l r : Nat) (R Q : List Bool) (k : Nat) (ag : Bool) : Prop where
  len : Q.length = l + 1
  kl : k ≤ l
  sound : ∀ j, Q.getD j false = true → Lv X l r j
  same : ag = false → Q = R ∧ ∀ i, k ≤ i → i < l → nB X r R i = true → R.getD i false = true
  less : ag = true → cntF Q < cntF R
section
variable {X : Nat → Nat → Int} {l r : Nat} {R Q : List Bool} {k : Nat} {ag : Bool}
theorem PasL.begin (hl : R.length = l + 1) (hs : ∀ j, R.getD j false = true → Lv X l r j) : PasL X l r R R l false :=
  ⟨hl, Nat.le_refl _, hs, fun _ => ⟨rfl, fun i h1 h2 => absurd h2 (by omega)⟩, fun h => by cases h⟩
theorem PasL.turn (h : PasL X l r R Q (k + 1) ag) (hb : nB X r Q k = true) (hq : Q.getD k false = false) : PasL X l r R (Q.set k true) k true := by
  have hk := h.kl
  have hjl : k < Q.length := by rw [h.len]; omega
  have hlt : cntF (Q.set k true) < cntF Q := cnt_set (by
    rw [List.getD_eq_getElem?_getD, List.getElem?_eq_getElem hjl] at hq ⊢
    exact hq)
  refine ⟨by simpa using h.len, by omega, fun j hj => ?_, (fun e => by cases e), fun _ => ?_⟩
  · rw [getD_setT hjl] at hj
    split at hj
    · rename_i e
      rw [e]
      exact nB_sound h.sound (by omega) hb
    · exact h.sound j hj
  · cases ag with
    | true => exact Nat.lt_trans hlt (h.less rfl)
    | false => rw [(h.same rfl).1] at hlt ⊢; exact hlt
theorem PasL.stay (h : PasL X l r R Q (k + 1) ag) (hb : nB X r Q k = false ∨ Q.getD k false = true) : PasL X l r R Q k ag := by
  refine ⟨h.len, by have := h.kl; omega, h.sound, fun e => ⟨(h.same e).1, fun i hi hil hn => ?_⟩, h.less⟩
  by_cases ei : i = k
  · subst ei
    have e1 := (h.same e).1
    rw [e1] at hb
    rcases hb with hb | hb
    · rw [hb] at hn; cases hn
    · exact hb
  · exact (h.same e).2 i (by omega) hil hn
theorem PasL.done (h : PasL X l r R Q 0 false) : ∀ i, Q.getD i false = true ↔ Lv X l r i := fun i => by
  obtain ⟨h1, h2⟩ := h.same rfl
  subst h1
  exact ⟨h.sound i, nB_whole fun i hi => h2 i (Nat.zero_le _) hi⟩
end
end

section
open Go.RowKit

def has (f : Nat → Nat) (r : Nat) : Bool := (f (r / 64)).testBit (r % 64)
def W64 (f : Nat → Nat) : Prop := ∀ q, f q < 18446744073709551616
def wth (f : Nat → Nat) (r : Nat) : Nat → Nat := fun q => if q = r / 64 then f q ||| 2 ^ (r % 64) else f q
def clr (a k : Nat) : Nat := (BitVec.ofNat 64 a &&& ~~~ BitVec.ofNat 64 (2 ^ k)).toNat
def wout (f : Nat → Nat) (r : Nat) : Nat → Nat := fun q => if q = r / 64 then clr (f q) (r % 64) else f q
def jnd (f g : Nat → Nat) : Nat → Nat := fun q => f q ||| g q
def noS : Nat → Nat := fun _ => 0

theorem pow_lt64 {k : Nat} (h : k < 64) : 2 ^ k < 18446744073709551616 := Nat.pow_lt_pow_right (by omega) h
theorem clr_bit {a k i : Nat} (ha : a < 18446744073709551616) : (clr a k).testBit i = (a.testBit i && !decide (i = k)) := by
  unfold clr
  rw [BitVec.testBit_toNat, BitVec.getLsbD_and, BitVec.getLsbD_not, BitVec.getLsbD_ofNat, BitVec.getLsbD_ofNat, Nat.testBit_two_pow]
  by_cases hi : i < 64
  · by_cases e : i = k
    · simp [e]
    · simp [hi, e, Ne.symm e]
  · have : a.testBit i = false := Nat.testBit_lt_two_pow (Nat.lt_of_lt_of_le ha (by
      have := Nat.pow_le_pow_right (n := 2) (by omega) (show 64 ≤ i by omega)
      exact this))
    simp [this]
theorem clr_lt (a k : Nat) : clr a k < 18446744073709551616 := (BitVec.ofNat 64 a &&& ~~~ BitVec.ofNat 64 (2 ^ k)).isLt
theorem clr_run (a k : Nat) : bits .andNot .u64 (a : Int) ((2 ^ k : Nat) : Int) = ((clr a k : Nat) : Int) := by
  show IntKind.u64.wrap ((BitVec.ofInt 64 (a : Int) &&& ~~~ BitVec.ofInt 64 ((2 ^ k : Nat) : Int)).toNat : Int) = _
  rw [BitVec.ofInt_natCast, BitVec.ofInt_natCast, IntKind.wrap_u64]
  have := clr_lt a k
  unfold clr at this ⊢
  omega
theorem shl_run {k : Nat} (hk : k < 64) : IntKind.u64.wrap (2 ^ min k 64) = ((2 ^ k : Nat) : Int) := by
  rw [Nat.min_eq_left (Nat.le_of_lt hk), IntKind.wrap_u64]
  have h := pow_lt64 hk
  have e : (2 : Int) ^ k = ((2 ^ k : Nat) : Int) := by simp
  rw [e]
  obtain ⟨p, hp⟩ : ∃ p : Nat, 2 ^ k = p := ⟨_, rfl⟩
  rw [hp] at h ⊢
  omega

theorem has_wth {f : Nat → Nat} {r s : Nat} : has (wth f r) s = (has f s || decide (s = r)) := by
  unfold has wth
  by_cases e : s / 64 = r / 64
  · rw [if_pos e, Nat.testBit_or, Nat.testBit_two_pow]
    congr 1
    rw [decide_eq_decide]
    omega
  · rw [if_neg e]
    have : ¬ s = r := fun h => e (by rw [h])
    simp [this]
theorem has_wout {f : Nat → Nat} {r s : Nat} (hf : W64 f) : has (wout f r) s = (has f s && !decide (s = r)) := by
  unfold has wout
  by_cases e : s / 64 = r / 64
  · rw [if_pos e, clr_bit (hf _)]
    congr 2
    rw [decide_eq_decide]
    omega
  · rw [if_neg e]
    have : ¬ s = r := fun h => e (by rw [h])
    simp [this]
theorem has_jnd {f g : Nat → Nat} {s : Nat} : has (jnd f g) s = (has f s || has g s) := by
  unfold has jnd
  rw [Nat.testBit_or]
theorem has_noS (s : Nat) : has noS s = false := by simp [has, noS]
theorem W64.wth {f : Nat → Nat} (h : W64 f) (r : Nat) : W64 (wth f r) := fun q => by
  unfold Go.Proofs.YtocfocjnnjdcgaaDoor.wth
  split
  · exact Nat.or_lt_two_pow (n := 64) (h q) (pow_lt64 (Nat.mod_lt _ (by omega)))
  · exact h q
theorem W64.wout {f : Nat → Nat} (h : W64 f) (r : Nat) : W64 (wout f r) := fun q => by
  unfold Go.Proofs.YtocfocjnnjdcgaaDoor.wout
  split
  · exact clr_lt _ _
  · exact h q
theorem W64.jnd {f g : Nat → Nat} (h : W64 f) (k : W64 g) : W64 (jnd f g) := fun q => Nat.or_lt_two_pow (n := 64) (h q) (k q)
theorem W64.noS : W64 noS := fun _ => by show (0 : Nat) < _; omega

/-! Many registers, many sets. -/
def addS (f : Nat → Nat) (rs : List Int) : Nat → Nat := rs.foldl (fun g r => wth g r.toNat) f
theorem addS_snoc (f : Nat → Nat) (rs : List Int) (r : Int) : addS f (rs ++ [r]) = wth (addS f rs) r.toNat := by simp [addS]
theorem has_addS {s : Nat} : ∀ {rs : List Int} {f : Nat → Nat}, (∀ r, r ∈ rs → 0 ≤ r) → (has (addS f rs) s = true ↔ has f s = true ∨ (s : Int) ∈ rs)
  | [], f, _ => by simp [addS]
  | r :: rs, f, h => by
    show has (addS (wth f r.toNat) rs) s = true ↔ _
    rw [has_addS fun x hx => h x (List.mem_cons_of_mem _ hx), has_wth, Bool.or_eq_true, decide_eq_true_eq, List.mem_cons]
    have := h r List.mem_cons_self
    have e : (s = r.toNat) ↔ ((s : Int) = r) := by omega
    rw [e, or_assoc]
theorem W64.addS : ∀ {rs : List Int} {f : Nat → Nat}, W64 f → W64 (addS f rs)
  | [], _, h => h
  | r :: rs, _, h => W64.addS (rs := rs) (W64.wth h r.toNat)
def jnS (S : Nat → Nat → Nat) (f : Nat → Nat) (js : List Nat) : Nat → Nat := js.foldl (fun g j => jnd g (S j)) f
theorem jnS_snoc (S : Nat → Nat → Nat) (f : Nat → Nat) (js : List Nat) (j : Nat) : jnS S f (js ++ [j]) = jnd (jnS S f js) (S j) := by simp [jnS]
theorem has_jnS {S : Nat → Nat → Nat} {s : Nat} : ∀ {js : List Nat} {f : Nat → Nat}, has (jnS S f js) s = true ↔ has f s = true ∨ ∃ j, j ∈ js ∧ has (S j) s = true
  | [], f => by simp [jnS]
  | j :: js, f => by
    show has (jnS S (jnd f (S j)) js) s = true ↔ _
    rw [has_jnS, has_jnd, Bool.or_eq_true, or_assoc]
    simp
theorem W64.jnS {S : Nat → Nat → Nat} (hS : ∀ j, W64 (S j)) : ∀ {js : List Nat} {f : Nat → Nat}, W64 f → W64 (jnS S f js)
  | [], _, h => h
  | j :: js, _, h => W64.jnS hS (js := js) (W64.jnd h (hS j))

/-- What is live behind order i, and ahead of it, as the sets S stand. -/
def bhF (X : Nat → Nat → Int) (S : Nat → Nat → Nat) (i : Nat) : Nat → Nat := jnS S noS (nxP X i)
def nF (X : Nat → Nat → Int) (S : Nat → Nat → Nat) (i : Nat) : Nat → Nat := addS (if wrX X i = -1 then bhF X S i else wout (bhF X S i) (wrX X i).toNat) (rdX X i)
theorem has_bhF {X : Nat → Nat → Int} {S : Nat → Nat → Nat} {i r : Nat} : has (bhF X S i) r = true ↔ ∃ j, j ∈ nxP X i ∧ has (S j) r = true := by
  unfold bhF
  rw [has_jnS, has_noS]
  simp
section
variable {X : Nat → Nat → Int} {l rg m lk : Nat} {S : Nat → Nat → Nat} {i r : Nat}
theorem W64.bhF (hS : ∀ j, W64 (S j)) : W64 (bhF X S i) := W64.jnS hS W64.noS
theorem W64.nF (hS : ∀ j, W64 (S j)) : W64 (nF X S i) := by
  unfold Go.Proofs.YtocfocjnnjdcgaaDoor.nF
  refine W64.addS ?_
  split
  · exact W64.bhF hS
  · exact W64.wout (W64.bhF hS) _
theorem has_nF (hok : ordE rg m lk l (X i 0) (X i 1) (X i 2) (X i 3) = 0) (hS : ∀ j, W64 (S j)) : has (nF X S i) r = true ↔ (r : Int) ∈ rdX X i ∨ (wrX X i ≠ (r : Int) ∧ ∃ j, j ∈ nxP X i ∧ has (S j) r = true) := by
  unfold nF
  rw [has_addS (rs := rdX X i) fun x hx => (ok_rd hok x hx).1, or_comm]
  refine or_congr Iff.rfl ?_
  have hw : wrX X i = -1 ∨ 0 ≤ wrX X i ∧ wrX X i < rg := ok_wr hok
  split
  · rename_i e
    rw [e, has_bhF]
    have : ¬ (-1 : Int) = (r : Int) := by omega
    simp [this]
  · rename_i e
    rw [has_wout (W64.bhF hS), Bool.and_eq_true, has_bhF, and_comm]
    refine and_congr ?_ Iff.rfl
    simp
    omega
end

theorem le_of_bits {a b : Nat} (h : ∀ i, a.testBit i = true → b.testBit i = true) : a ≤ b := by
  have e : a = a &&& b := Nat.eq_of_testBit_eq fun i => by
    rw [Nat.testBit_and]
    cases ha : a.testBit i with
    | false => rfl
    | true => rw [h i ha]; rfl
  rw [e]
  exact Nat.and_le_right
theorem le_of_has {f g : Nat → Nat} (hf : W64 f) (h : ∀ r, has f r = true → has g r = true) (q : Nat) : f q ≤ g q := by
  refine le_of_bits fun i hi => ?_
  have hi64 : i < 64 := by
    rcases Nat.lt_or_ge i 64 with h1 | h1
    · exact h1
    · have := Nat.testBit_lt_two_pow (x := f q) (i := i) (Nat.lt_of_lt_of_le (hf q) (by
        have := Nat.pow_le_pow_right (n := 2) (by omega) h1
        exact this))
      rw [this] at hi; cases hi
  have e1 : (q * 64 + i) / 64 = q := by omega
  have e2 : (q * 64 + i) % 64 = i := by omega
  have := h (q * 64 + i) (by unfold has; rw [e1, e2]; exact hi)
  unfold has at this
  rwa [e1, e2] at this

/-- How much all sets of l orders hold, as a number. -/
def sumB (S : Nat → Nat → Nat) : Nat → Nat
  | 0 => 0
  | n + 1 => sumB S n + (S n 0 + S n 1 + S n 2 + S n 3)
theorem sumS_same {S S' : Nat → Nat → Nat} : ∀ {n : Nat}, (∀ i, i < n → S' i = S i) → sumB S' n = sumB S n
  | 0, _ => rfl
  | n + 1, h => by
    show sumB S' n + _ = sumB S n + _
    rw [sumS_same fun i hi => h i (by omega), h n (by omega)]
theorem sumS_more {S S' : Nat → Nat → Nat} {k : Nat} (hne : ∀ i, i ≠ k → S' i = S i) (hlt : S k 0 + S k 1 + S k 2 + S k 3 < S' k 0 + S' k 1 + S' k 2 + S' k 3) : ∀ {n : Nat}, k < n → sumB S n < sumB S' n
  | 0, h => absurd h (Nat.not_lt_zero _)
  | n + 1, h => by
    show sumB S n + _ < sumB S' n + _
    by_cases e : k = n
    · subst e
      rw [sumS_same (S := S) (S' := S') fun i hi => hne i (by omega)]
      omega
    · have := sumS_more hne hlt (n := n) (by omega)
      rw [hne n (fun x => e x.symm)]
      omega
theorem sumS_le {S : Nat → Nat → Nat} (hS : ∀ j, W64 (S j)) : ∀ n, sumB S n ≤ n * 73786976294838206464
  | 0 => Nat.le_refl _
  | n + 1 => by
    have h := sumS_le hS n
    have h0 := hS n 0; have h1 := hS n 1; have h2 := hS n 2; have h3 := hS n 3
    show sumB S n + _ ≤ _
    omega

/-- Two sets are the same four words. -/
def eqS (f g : Nat → Nat) : Prop := f 0 = g 0 ∧ f 1 = g 1 ∧ f 2 = g 2 ∧ f 3 = g 3
theorem eqS.has {f g : Nat → Nat} (h : eqS f g) {r : Nat} (hr : r < 256) : has f r = has g r := by
  unfold Go.Proofs.YtocfocjnnjdcgaaDoor.has
  rcases (by omega : r / 64 = 0 ∨ r / 64 = 1 ∨ r / 64 = 2 ∨ r / 64 = 3) with e | e | e | e <;> rw [e]
  · rw [h.1]
  · rw [h.2.1]
  · rw [h.2.2.1]
  · rw [h.2.2.2]

/-- A pass of the program's: R as it began, S as it is, k orders still to come; ag: has one been turned? -/
structure PasS (X : Nat → Nat → Int) (l rg m lk : Nat) (R S : Nat → Nat → Nat) (k : Nat) (ag : Bool) : Prop where
  w64 : ∀ j, W64 (S j)
  kl : k ≤ l
  sound : ∀ j r, has (S j) r = true → Lv X l r j
  incr : ∀ i, i < l → ∀ r, has (S i) r = true → has (nF X S i) r = true
  same : ag = false → S = R ∧ ∀ i, k ≤ i → i < l → eqS (nF X R i) (R i)
  less : ag = true → sumB R l < sumB S l
def putS (S : Nat → Nat → Nat) (k : Nat) (f : Nat → Nat) : Nat → Nat → Nat := fun j => if j = k then f else S j
theorem putS_self (S : Nat → Nat → Nat) (k : Nat) (f : Nat → Nat) : putS S k f k = f := by simp [putS]
theorem putS_ne (S : Nat → Nat → Nat) {k j : Nat} (f : Nat → Nat) (h : j ≠ k) : putS S k f j = S j := by simp [putS, h]
section
variable {X : Nat → Nat → Int} {l rg m lk : Nat} {R S : Nat → Nat → Nat} {k : Nat} {ag : Bool}
theorem PasS.zero : PasS X l rg m lk (fun _ => noS) (fun _ => noS) l false :=
  ⟨fun _ => W64.noS, Nat.le_refl _, fun j r h => (by rw [has_noS] at h; cases h), fun i _ r h => (by rw [has_noS] at h; cases h), fun _ => ⟨rfl, fun i h1 h2 => absurd h2 (by omega)⟩, fun h => by cases h⟩
theorem PasS.begin (h : PasS X l rg m lk R S k ag) : PasS X l rg m lk S S l false :=
  ⟨h.w64, Nat.le_refl _, h.sound, h.incr, fun _ => ⟨rfl, fun i h1 h2 => absurd h2 (by omega)⟩, fun e => by cases e⟩
theorem PasS.stay (h : PasS X l rg m lk R S (k + 1) ag) (he : eqS (nF X S k) (S k)) : PasS X l rg m lk R S k ag := by
  refine ⟨h.w64, by have := h.kl; omega, h.sound, h.incr, fun e => ⟨(h.same e).1, fun i hi hil => ?_⟩, h.less⟩
  by_cases ei : i = k
  · rw [ei, ← (h.same e).1]
    exact he
  · exact (h.same e).2 i (by omega) hil
theorem PasS.turn (hok : ∀ i, i < l → ordE rg m lk l (X i 0) (X i 1) (X i 2) (X i 3) = 0) (h : PasS X l rg m lk R S (k + 1) ag) (hne : ¬ eqS (nF X S k) (S k)) : PasS X l rg m lk R (putS S k (nF X S k)) k true := by
  have hk : k < l := by have := h.kl; omega
  have hw : ∀ j, W64 (putS S k (nF X S k) j) := fun j => by
    unfold putS
    split
    · exact W64.nF h.w64
    · exact h.w64 j
  have hmore : ∀ j r, has (S j) r = true → has (putS S k (nF X S k) j) r = true := fun j r hr => by
    unfold putS
    split
    · rename_i e; subst e; exact h.incr j hk r hr
    · exact hr
  have hgrow : ∀ i, i < l → ∀ r, has (nF X S i) r = true → has (nF X (putS S k (nF X S k)) i) r = true := fun i hi r hr => by
    rw [has_nF (hok i hi) h.w64] at hr
    rw [has_nF (hok i hi) hw]
    rcases hr with hr | ⟨h1, j, hj, h2⟩
    · exact Or.inl hr
    · exact Or.inr ⟨h1, j, hj, hmore j r h2⟩
  have hlt : sumB S l < sumB (putS S k (nF X S k)) l := by
    refine sumS_more (fun i hi => putS_ne _ _ hi) ?_ hk
    rw [putS_self]
    have hle := le_of_has (h.w64 k) (h.incr k hk)
    have h0 := hle 0; have h1 := hle 1; have h2 := hle 2; have h3 := hle 3
    rcases Nat.lt_or_ge (S k 0 + S k 1 + S k 2 + S k 3) (nF X S k 0 + nF X S k 1 + nF X S k 2 + nF X S k 3) with h4 | h4
    · exact h4
    · exact absurd ⟨by omega, by omega, by omega, by omega⟩ hne
  refine ⟨hw, by omega, fun j r hr => ?_, fun i hi r hr => ?_, (fun e => by cases e), fun _ => ?_⟩
  · unfold putS at hr
    split at hr
    · rename_i e
      subst e
      rw [has_nF (hok j hk) h.w64] at hr
      rw [lv_iff hk]
      rcases hr with hr | ⟨h1, j', hj, h2⟩
      · exact Or.inl hr
      · exact Or.inr ⟨h1, j', hj, h.sound j' r h2⟩
    · exact h.sound j r hr
  · by_cases ei : i = k
    · subst ei
      rw [putS_self] at hr
      exact hgrow i hi r hr
    · rw [putS_ne _ _ ei] at hr
      exact hgrow i hi r (h.incr i hi r hr)
  · cases ag with
    | true => exact Nat.lt_trans (h.less rfl) hlt
    | false => rw [(h.same rfl).1] at hlt ⊢; exact hlt
theorem PasS.done (hr2 : rg ≤ 200) (hok : ∀ i, i < l → ordE rg m lk l (X i 0) (X i 1) (X i 2) (X i 3) = 0) (h : PasS X l rg m lk R S 0 false) : ∀ i r, has (S i) r = true ↔ Lv X l r i := fun i r => by
  obtain ⟨h1, h2⟩ := h.same rfl
  subst h1
  refine ⟨h.sound i r, fun hl => ?_⟩
  have hrg := hl.reg hok
  induction hl with
  | read hi hr =>
    rw [← (h2 _ (Nat.zero_le _) hi).has (by omega), has_nF (hok _ hi) h.w64]
    exact Or.inl hr
  | pass hi hw hj _ ih =>
    rw [← (h2 _ (Nat.zero_le _) hi).has (by omega), has_nF (hok _ hi) h.w64]
    exact Or.inr ⟨hw, _, hj, ih⟩
end
end

end Go.Proofs.YtocfocjnnjdcgaaDoor
