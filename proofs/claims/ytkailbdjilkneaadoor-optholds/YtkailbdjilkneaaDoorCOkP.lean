/-
  What an order's numbers may be, of a program that may be.
  What holds of a state in every run of a program that may be; what an order's numbers may be.
  What chapter 13 says of registers that are live, and of those that clash: least sets, and the passes that find them.
  What chapter 14 says of values that are always the same: the least solution, and the passes that find it.
  A program that passed Check.
-/
import Derived.Test.YtkailbdjilkneaaDoorBase
import Derived.Test.YtkailbdjilkneaaDoorDSt
namespace Go.Proofs.YtkailbdjilkneaaDoor
section
open Go.RowKit

/-- The orders may be. -/
structure COk (n : Nat) (L : Nat → Nat) (X : Nat → Nat → Nat → Int) (m lk rg : Nat) : Prop where
  n4 : n ≤ 4
  L4 : ∀ t, t < n → L t ≤ 1000
  m64 : m ≤ 64
  lk4 : lk ≤ 4
  rg0 : 1 ≤ rg
  rg2 : rg ≤ 200
  ord : ∀ t i, t < n → i < L t → ordE rg m lk (L t) (X t i 0) (X t i 1) (X t i 2) (X t i 3) = 0

section
variable {rg m lk sz : Nat} {op a b c : Int}
theorem ok_op (h : ordE rg m lk sz op a b c = 0) : 1 ≤ op ∧ op ≤ 18 := by
  rcases op_cases op with h1 | h1
  · exfalso
    unfold ordE at h
    rw [kd_out h1] at h
    simp at h
  · omega
theorem ok_three {rg m lk sz : Int} {x y z : Int} (hk : kd op = some (x, y, z)) (h : ordE rg m lk sz op a b c = 0) : okN rg m lk sz x a = true ∧ okN rg m lk sz y b = true ∧ okN rg m lk sz z c = true := by
  unfold ordE at h
  rw [hk] at h
  simp only at h
  split at h
  · rename_i h1; simpa [and_assoc] using h1
  · omega
theorem okN_reg {rg m lk sz n : Int} (h : okN rg m lk sz 1 n = true) : 0 ≤ n ∧ n < rg := by simpa [okN, lim] using h
theorem okN_word {rg m lk sz n : Int} (h : okN rg m lk sz 2 n = true) : 0 ≤ n ∧ n < m := by simpa [okN, lim] using h
theorem okN_lock {rg m lk sz n : Int} (h : okN rg m lk sz 3 n = true) : 0 ≤ n ∧ n < lk := by simpa [okN, lim] using h
theorem okN_place {rg m lk sz n : Int} (h : okN rg m lk sz 4 n = true) : 0 ≤ n ∧ n ≤ sz := by
  have : 0 ≤ n ∧ n < sz + 1 := by simpa [okN, lim] using h
  omega
/-- An order of three registers. -/
theorem ok_rrr (ho : op = 3 ∨ op = 4 ∨ op = 5 ∨ op = 6 ∨ op = 7) (h : ordE rg m lk sz op a b c = 0) : (0 ≤ a ∧ a < rg) ∧ (0 ≤ b ∧ b < rg) ∧ (0 ≤ c ∧ c < rg) := by
  have hk : kd op = some (1, 1, 1) := by rcases ho with rfl | rfl | rfl | rfl | rfl <;> rfl
  have := ok_three hk h
  exact ⟨okN_reg this.1, okN_reg this.2.1, okN_reg this.2.2⟩
theorem ok_const (h : ordE rg m lk sz 1 a b c = 0) : 0 ≤ a ∧ a < rg := okN_reg (ok_three (op := 1) rfl h).1
theorem ok_rr (ho : op = 2 ∨ op = 10 ∨ op = 11) (h : ordE rg m lk sz op a b c = 0) : (0 ≤ a ∧ a < rg) ∧ (0 ≤ b ∧ b < rg) := by
  have hk : kd op = some (1, 1, 0) := by rcases ho with rfl | rfl | rfl <;> rfl
  have := ok_three hk h
  exact ⟨okN_reg this.1, okN_reg this.2.1⟩
theorem ok_load (h : ordE rg m lk sz 8 a b c = 0) : (0 ≤ a ∧ a < rg) ∧ (0 ≤ b ∧ b < m) := by
  have := ok_three (op := 8) rfl h
  exact ⟨okN_reg this.1, okN_word this.2.1⟩
theorem ok_store (h : ordE rg m lk sz 9 a b c = 0) : (0 ≤ a ∧ a < m) ∧ (0 ≤ b ∧ b < rg) := by
  have := ok_three (op := 9) rfl h
  exact ⟨okN_word this.1, okN_reg this.2.1⟩
theorem ok_cas (h : ordE rg m lk sz 13 a b c = 0) : (0 ≤ a ∧ a < m) ∧ (0 ≤ b ∧ b < rg) ∧ (0 ≤ c ∧ c < rg) := by
  have := ok_three (op := 13) rfl h
  exact ⟨okN_word this.1, okN_reg this.2.1, okN_reg this.2.2⟩
theorem ok_jump (h : ordE rg m lk sz 14 a b c = 0) : 0 ≤ a ∧ a ≤ sz := okN_place (ok_three (op := 14) rfl h).1
theorem ok_zero (h : ordE rg m lk sz 15 a b c = 0) : (0 ≤ a ∧ a < rg) ∧ (0 ≤ b ∧ b ≤ sz) := by
  have := ok_three (op := 15) rfl h
  exact ⟨okN_reg this.1, okN_place this.2.1⟩
theorem ok_print (h : ordE rg m lk sz 16 a b c = 0) : 0 ≤ a ∧ a < rg := okN_reg (ok_three (op := 16) rfl h).1
theorem ok_lock (ho : op = 17 ∨ op = 18) (h : ordE rg m lk sz op a b c = 0) : 0 ≤ a ∧ a < lk := by
  have hk : kd op = some (3, 0, 0) := by rcases ho with rfl | rfl <;> rfl
  exact okN_lock (ok_three hk h).1
end
theorem toN {a : Int} {n : Nat} (h : 0 ≤ a ∧ a < n) : ∃ k : Nat, a = k ∧ k < n := ⟨a.toNat, by omega, by omega⟩
theorem toN_le {a : Int} {n : Nat} (h : 0 ≤ a ∧ a ≤ n) : ∃ k : Nat, a = k ∧ k ≤ n := ⟨a.toNat, by omega, by omega⟩
end

section
open Go.RowKit

/-- What holds of a state in every run: of n threads, m words, lk locks, rg registers a thread. -/
structure SOk (n : Nat) (L : Nat → Nat) (m lk rg : Nat) (mode : Int) (s : Sx) : Prop where
  ths : s.ths.length = n
  pc : ∀ t, t < n → (thOf s t).pc ≤ L t
  regs : ∀ t, t < n → (thOf s t).regs.length = rg
  words : s.words.length = m
  own : s.own.length = lk
  wlen : ∀ t, t < n → (thOf s t).wait.length ≤ 3
  wok : ∀ t, t < n → ∀ x, x ∈ (thOf s t).wait → (0 ≤ x.wh ∧ x.wh < (if x.lk then lk else m : Nat)) ∧ (x.lk = true → x.what = 0)
  bare : mode = 0 → ∀ t, t < n → (thOf s t).wait = []
end

section
open Go.RowKit

/-- The registers that an order reads; the one that it writes, -1: none; where it leads on. -/
def rdL (op a b c : Int) : List Int :=
  if op = 2 ∨ op = 9 ∨ op = 10 then [b] else if op = 3 ∨ op = 4 ∨ op = 5 ∨ op = 6 ∨ op = 7 ∨ op = 13 then [b, c] else if op = 11 then [a, b] else if op = 15 ∨ op = 16 then [a] else []
def wrL (op a b : Int) : Int :=
  if op = 1 ∨ op = 2 ∨ op = 3 ∨ op = 4 ∨ op = 5 ∨ op = 6 ∨ op = 7 ∨ op = 8 ∨ op = 10 then a else if op = 13 then b else -1
def nxL (op a b : Int) (i : Nat) : List Nat := if op = 14 then [a.toNat] else if op = 15 then [i + 1, b.toNat] else [i + 1]

def rdX (X : Nat → Nat → Int) (i : Nat) : List Int := rdL (X i 0) (X i 1) (X i 2) (X i 3)
def wrX (X : Nat → Nat → Int) (i : Nat) : Int := wrL (X i 0) (X i 1) (X i 2)
def nxP (X : Nat → Nat → Int) (i : Nat) : List Nat := nxL (X i 0) (X i 1) (X i 2) i

/-- Register r is live ahead of order i of l. -/
inductive Lv (X : Nat → Nat → Int) (l r : Nat) : Nat → Prop
  | read {i : Nat} (h : i < l) (hr : (r : Int) ∈ rdX X i) : Lv X l r i
  | pass {i j : Nat} (h : i < l) (hw : wrX X i ≠ (r : Int)) (hj : j ∈ nxP X i) (hl : Lv X l r j) : Lv X l r i
/-- Live behind order i. -/
def Bh (X : Nat → Nat → Int) (l r i : Nat) : Prop := ∃ j, j ∈ nxP X i ∧ Lv X l r j
theorem lv_iff {X : Nat → Nat → Int} {l r i : Nat} (hi : i < l) : Lv X l r i ↔ (r : Int) ∈ rdX X i ∨ (wrX X i ≠ (r : Int) ∧ Bh X l r i) := by
  constructor
  · intro h
    cases h with
    | read _ hr => exact Or.inl hr
    | pass _ hw hj hl => exact Or.inr ⟨hw, _, hj, hl⟩
  · rintro (h | ⟨h, j, hj, hl⟩)
    · exact .read hi h
    · exact .pass hi h hj hl
/-! What an order of a program that may be reads, writes, where it leads. -/
section
variable {rg m lk sz : Nat} {op a b c : Int}
theorem ok_lead (h : ordE rg m lk sz op a b c = 0) : (op = 14 → 0 ≤ a ∧ a ≤ sz) ∧ (op = 15 → 0 ≤ b ∧ b ≤ sz) := by
  refine ⟨fun e => ?_, fun e => ?_⟩
  · subst e; exact ok_jump h
  · subst e; exact (ok_zero h).2
theorem ok_wr (h : ordE rg m lk sz op a b c = 0) : wrL op a b = -1 ∨ 0 ≤ wrL op a b ∧ wrL op a b < rg := by
  have ho := ok_op h
  rcases (by omega : op = 1 ∨ op = 2 ∨ op = 3 ∨ op = 4 ∨ op = 5 ∨ op = 6 ∨ op = 7 ∨ op = 8 ∨ op = 9 ∨ op = 10 ∨ op = 11 ∨ op = 12 ∨ op = 13 ∨ op = 14 ∨ op = 15 ∨ op = 16 ∨ op = 17 ∨ op = 18) with rfl | rfl | rfl | rfl | rfl | rfl | rfl | rfl | rfl | rfl | rfl | rfl | rfl | rfl | rfl | rfl | rfl | rfl
  · exact Or.inr (ok_const h)
  · exact Or.inr (ok_rr (by omega) h).1
  · exact Or.inr (ok_rrr (by omega) h).1
  · exact Or.inr (ok_rrr (by omega) h).1
  · exact Or.inr (ok_rrr (by omega) h).1
  · exact Or.inr (ok_rrr (by omega) h).1
  · exact Or.inr (ok_rrr (by omega) h).1
  · exact Or.inr (ok_load h).1
  · exact Or.inl rfl
  · exact Or.inr (ok_rr (by omega) h).1
  · exact Or.inl rfl
  · exact Or.inl rfl
  · exact Or.inr (ok_cas h).2.1
  all_goals exact Or.inl rfl
theorem ok_rd (h : ordE rg m lk sz op a b c = 0) : ∀ r, r ∈ rdL op a b c → 0 ≤ r ∧ r < rg := by
  have ho := ok_op h
  have one : ∀ {x : Int}, (0 ≤ x ∧ x < rg) → ∀ r, r ∈ [x] → 0 ≤ r ∧ r < rg := fun hx r hr => by simp only [List.mem_singleton] at hr; subst hr; exact hx
  have two : ∀ {x y : Int}, (0 ≤ x ∧ x < rg) → (0 ≤ y ∧ y < rg) → ∀ r, r ∈ [x, y] → 0 ≤ r ∧ r < rg := fun hx hy r hr => by
    simp only [List.mem_cons, List.not_mem_nil, or_false] at hr
    rcases hr with rfl | rfl
    · exact hx
    · exact hy
  have none : ∀ r, r ∈ ([] : List Int) → 0 ≤ r ∧ r < (rg : Int) := fun r hr => by cases hr
  rcases (by omega : op = 1 ∨ op = 2 ∨ op = 3 ∨ op = 4 ∨ op = 5 ∨ op = 6 ∨ op = 7 ∨ op = 8 ∨ op = 9 ∨ op = 10 ∨ op = 11 ∨ op = 12 ∨ op = 13 ∨ op = 14 ∨ op = 15 ∨ op = 16 ∨ op = 17 ∨ op = 18) with rfl | rfl | rfl | rfl | rfl | rfl | rfl | rfl | rfl | rfl | rfl | rfl | rfl | rfl | rfl | rfl | rfl | rfl
  · exact none
  · exact one (ok_rr (by omega) h).2
  · exact two (ok_rrr (by omega) h).2.1 (ok_rrr (by omega) h).2.2
  · exact two (ok_rrr (by omega) h).2.1 (ok_rrr (by omega) h).2.2
  · exact two (ok_rrr (by omega) h).2.1 (ok_rrr (by omega) h).2.2
  · exact two (ok_rrr (by omega) h).2.1 (ok_rrr (by omega) h).2.2
  · exact two (ok_rrr (by omega) h).2.1 (ok_rrr (by omega) h).2.2
  · exact none
  · exact one (ok_store h).2
  · exact one (ok_rr (by omega) h).2
  · exact two (ok_rr (by omega) h).1 (ok_rr (by omega) h).2
  · exact none
  · exact two (ok_cas h).2.1 (ok_cas h).2.2
  · exact none
  · exact one (ok_zero h).1
  · exact one (ok_print h)
  · exact none
  · exact none
theorem ok_nx {i : Nat} (hi : i < sz) (h : ordE rg m lk sz op a b c = 0) : ∀ j, j ∈ nxL op a b i → j ≤ sz := fun j hj => by
  have hle := ok_lead h
  unfold nxL at hj
  split at hj
  · rename_i e
    have := hle.1 e
    simp only [List.mem_singleton] at hj
    omega
  · split at hj
    · rename_i e
      have := hle.2 e
      simp only [List.mem_cons, List.not_mem_nil, or_false] at hj
      omega
    · simp only [List.mem_singleton] at hj
      omega
end
theorem nxL_len (op a b : Int) (i : Nat) : (nxL op a b i).length ≤ 2 := by
  unfold nxL
  split
  · simp
  · split <;> simp
/-- What is live is a register. -/
theorem Lv.reg {X : Nat → Nat → Int} {l r i rg m lk : Nat} (hok : ∀ i, i < l → ordE rg m lk l (X i 0) (X i 1) (X i 2) (X i 3) = 0) (h : Lv X l r i) : r < rg := by
  induction h with
  | read hi hr => have := ok_rd (hok _ hi) _ hr; omega
  | pass _ _ _ _ ih => exact ih
/-! One register: the document's passes, from the last order on. -/
section
variable {X : Nat → Nat → Int} {l r : Nat} {R Q : List Bool} {k : Nat} {ag : Bool}
end

/-- An order that does nothing but to make something of its A, which is not live behind it. -/
def deadO (X : Nat → Nat → Int) (l i : Nat) : Prop := (1 ≤ X i 0 ∧ X i 0 ≤ 8) ∧ ∀ r : Nat, X i 1 = (r : Int) → ¬ Lv X l r (i + 1)
end

section
open Go.RowKit

/-- What is known of a value: it is not there; it is always the number; it is any. -/
inductive Vl
  | no
  | num (n : Int)
  | any
deriving DecidableEq, Inhabited
def Vl.st : Vl → Nat
  | .no => 0
  | .num _ => 1
  | .any => 2
def Vl.nb : Vl → Int
  | .num n => n
  | _ => 0
/-- Two that come together. -/
def Vl.meet : Vl → Vl → Vl
  | .no, b => b
  | a, .no => a
  | .num m, .num n => if m = n then .num m else .any
  | _, _ => .any
def Vl.le (a b : Vl) : Prop := a = b ∨ a = .no ∨ b = .any
/-- How far it may still grow. -/
def Vl.ht : Vl → Nat
  | .no => 2
  | .num _ => 1
  | .any => 0
theorem Vl.le_refl (a : Vl) : a.le a := Or.inl rfl
theorem Vl.no_le (a : Vl) : Vl.no.le a := Or.inr (Or.inl rfl)
theorem Vl.le_any (a : Vl) : a.le .any := Or.inr (Or.inr rfl)
theorem Vl.le_no {a : Vl} (h : a.le .no) : a = .no := by
  rcases h with h | h | h
  · exact h
  · exact h
  · cases h
theorem Vl.any_le {a : Vl} (h : Vl.any.le a) : a = .any := by
  rcases h with h | h | h
  · exact h.symm
  · cases h
  · exact h
theorem Vl.num_le {a : Vl} {n : Int} (h : (Vl.num n).le a) : a = .any ∨ a = .num n := by
  rcases h with h | h | h
  · exact Or.inr h.symm
  · cases h
  · exact Or.inl h
theorem Vl.le_trans {a b c : Vl} (h1 : a.le b) (h2 : b.le c) : a.le c := by
  rcases h1 with rfl | rfl | rfl
  · exact h2
  · exact Vl.no_le _
  · rw [Vl.any_le h2]; exact Vl.le_any _
theorem Vl.le_meet_l (a b : Vl) : a.le (a.meet b) := by
  cases a <;> cases b <;> simp only [Vl.meet] <;> first
    | exact Vl.le_refl _
    | exact Vl.no_le _
    | exact Vl.le_any _
    | (split <;> first | exact Vl.le_refl _ | exact Vl.le_any _)
theorem Vl.le_meet_r (a b : Vl) : b.le (a.meet b) := by
  cases a <;> cases b <;> simp only [Vl.meet] <;> first
    | exact Vl.le_refl _
    | exact Vl.no_le _
    | exact Vl.le_any _
    | (split <;> first | (rename_i e; rw [e]; exact Vl.le_refl _) | exact Vl.le_any _)
theorem Vl.meet_le {a b c : Vl} (h1 : a.le c) (h2 : b.le c) : (a.meet b).le c := by
  cases a with
  | no => exact h2
  | any => rw [Vl.any_le h1]; exact Vl.le_any _
  | num m =>
    cases b with
    | no => exact h1
    | any => rw [Vl.any_le h2]; exact Vl.le_any _
    | num n =>
      rcases Vl.num_le h1 with rfl | rfl
      · exact Vl.le_any _
      · rcases Vl.num_le h2 with h | h
        · cases h
        · cases h
          simp only [Vl.meet, ↓reduceIte]
          exact Vl.le_refl _
theorem Vl.ht_le {a b : Vl} (h : a.le b) : b.ht ≤ a.ht := by
  rcases h with rfl | rfl | rfl
  · exact Nat.le_refl _
  · cases b <;> simp [Vl.ht]
  · simp [Vl.ht]
theorem Vl.ht_lt {a b : Vl} (h : a.le b) (hne : b ≠ a) : b.ht < a.ht := by
  rcases h with rfl | rfl | rfl
  · exact absurd rfl hne
  · cases b <;> first | exact absurd rfl hne | simp [Vl.ht]
  · cases a <;> first | exact absurd rfl hne | simp [Vl.ht]
theorem Vl.st_num {a : Vl} : a.st = 1 ↔ a = .num a.nb := by cases a <;> simp [Vl.st, Vl.nb]
/-- What an order reckons of two numbers. -/
def rcI (op b c : Int) : Int :=
  if op = 3 then IntKind.i64.wrap (b + c) else if op = 4 then IntKind.i64.wrap (b - c) else if op = 5 then IntKind.i64.wrap (b * c) else if op = 6 then bitI (decide (b < c)) else if op = 7 then bitI (decide (b = c)) else b
def rcV (op : Int) : Vl → Vl → Vl
  | .no, _ => .no
  | _, .no => .no
  | .num b, .num c => .num (rcI op b c)
  | _, _ => .any
/-- What becomes of the register that an order writes; e: what is known ahead of it. -/
def mkV (op b c : Int) (e : Nat → Vl) : Vl :=
  if op = 1 then .num b else if op = 2 then e b.toNat else if op = 3 ∨ op = 4 ∨ op = 5 ∨ op = 6 ∨ op = 7 then rcV op (e b.toNat) (e c.toNat) else .any
/-- What a register holds behind an order. -/
def bhV (X : Nat → Nat → Int) (i : Nat) (e : Nat → Vl) (r : Nat) : Vl := if wrX X i = (r : Int) then mkV (X i 0) (X i 2) (X i 3) e else e r
/-- Where an order can lead on. -/
def wyL (op a b : Int) (i : Nat) (v : Vl) : List Nat :=
  if op = 15 then (match v with | .no => [] | .any => [i + 1, b.toNat] | .num n => if n = 0 then [b.toNat] else [i + 1]) else nxL op a b i
def wyX (X : Nat → Nat → Int) (i : Nat) (e : Nat → Vl) : List Nat := wyL (X i 0) (X i 1) (X i 2) i (e (X i 1).toNat)
theorem rcV_mono {op : Int} {b b' c c' : Vl} (h1 : b.le b') (h2 : c.le c') : (rcV op b c).le (rcV op b' c') := by
  rcases h1 with rfl | rfl | rfl
  · rcases h2 with rfl | rfl | rfl
    · exact Vl.le_refl _
    · cases b <;> exact Vl.no_le _
    · cases b
      · exact Vl.le_refl _
      · exact Vl.le_any _
      · exact Vl.le_any _
  · exact Vl.no_le _
  · cases c' with
    | no => rw [Vl.le_no h2]; cases b <;> exact Vl.no_le _
    | num n => exact Vl.le_any _
    | any => exact Vl.le_any _
/-- What mkV hangs on. -/
theorem mkV_mono2 {rg m lk sz : Nat} {op a b c : Int} (ho : ordE rg m lk sz op a b c = 0) {e f : Nat → Vl} (h : ∀ r, r < rg → (e r).le (f r)) : (mkV op b c e).le (mkV op b c f) := by
  unfold mkV
  repeat' split
  · exact Vl.le_refl _
  · rename_i h2
    subst h2
    have := (ok_rr (by omega) ho).2
    exact h _ (by omega)
  · rename_i h3
    have := ok_rrr h3 ho
    exact rcV_mono (h _ (by omega)) (h _ (by omega))
  · exact Vl.le_refl _
theorem wyL_mono {op a b : Int} {i : Nat} {v u : Vl} (h : v.le u) {j : Nat} (hj : j ∈ wyL op a b i v) : j ∈ wyL op a b i u := by
  unfold wyL at hj ⊢
  split
  · rename_i e
    rw [if_pos e] at hj
    rcases h with rfl | rfl | rfl
    · exact hj
    · cases hj
    · cases v with
      | no => cases hj
      | any => exact hj
      | num n =>
        simp only at hj ⊢
        split at hj <;> simp_all
  · rename_i e
    rw [if_neg e] at hj
    exact hj
theorem wyL_nx {op a b : Int} {i : Nat} {v : Vl} {j : Nat} (hj : j ∈ wyL op a b i v) : j ∈ nxL op a b i := by
  unfold wyL at hj
  split at hj
  · rename_i e
    subst e
    show j ∈ (if (15 : Int) = 14 then _ else if (15 : Int) = 15 then [i + 1, b.toNat] else [i + 1])
    rw [if_neg (by decide), if_pos rfl]
    cases v with
    | no => cases hj
    | any => exact hj
    | num n =>
      simp only at hj
      split at hj <;> simp_all
  · exact hj

/-- What is known of a thread: some solution. -/
structure SolV (X : Nat → Nat → Int) (l rg : Nat) (E : Nat → Nat → Vl) : Prop where
  z : ∀ r, r < rg → (Vl.num 0).le (E 0 r)
  s : ∀ i s, i < l → s < rg → E i s ≠ .no → ∀ j, j ∈ wyX X i (E i) → ∀ r, r < rg → (bhV X i (E i) r).le (E j r)
/-- The least one. -/
structure LsV (X : Nat → Nat → Int) (l rg : Nat) (E : Nat → Nat → Vl) : Prop where
  sol : SolV X l rg E
  least : ∀ F, SolV X l rg F → ∀ i r, i ≤ l → r < rg → (E i r).le (F i r)
section
variable {X : Nat → Nat → Int} {l rg m lk : Nat} {E : Nat → Nat → Vl}
theorem bhV_mono (hok : ∀ i, i < l → ordE rg m lk l (X i 0) (X i 1) (X i 2) (X i 3) = 0) {i : Nat} (hi : i < l) {e f : Nat → Vl} (h : ∀ r, r < rg → (e r).le (f r)) {r : Nat} (hr : r < rg) : (bhV X i e r).le (bhV X i f r) := by
  unfold bhV
  split
  · exact mkV_mono2 (hok i hi) h
  · exact h r hr
theorem wy_reg (hok : ∀ i, i < l → ordE rg m lk l (X i 0) (X i 1) (X i 2) (X i 3) = 0) {i : Nat} (hi : i < l) {e f : Nat → Vl} (h : ∀ r, r < rg → (e r).le (f r)) {j : Nat} (hj : j ∈ wyX X i e) : j ∈ wyX X i f := by
  unfold wyX at hj ⊢
  by_cases h15 : X i 0 = 15
  · have h0 := hok i hi
    rw [h15] at h0
    have := (ok_zero h0).1
    exact wyL_mono (h _ (by omega)) hj
  · unfold wyL at hj ⊢
    rw [if_neg h15] at hj ⊢
    exact hj
theorem wy_le (hok : ∀ i, i < l → ordE rg m lk l (X i 0) (X i 1) (X i 2) (X i 3) = 0) {i : Nat} (hi : i < l) {e : Nat → Vl} {j : Nat} (hj : j ∈ wyX X i e) : j ≤ l :=
  ok_nx hi (hok i hi) j (wyL_nx hj)
theorem mkV_there (hok : ∀ i, i < l → ordE rg m lk l (X i 0) (X i 1) (X i 2) (X i 3) = 0) {i : Nat} (hi : i < l) {e : Nat → Vl} (h : ∀ r, r < rg → e r ≠ .no) : mkV (X i 0) (X i 2) (X i 3) e ≠ .no := by
  have h0 := hok i hi
  unfold mkV
  repeat' split
  · intro e; cases e
  · rename_i h2
    rw [h2] at h0
    have := (ok_rr (by omega) h0).2
    exact h _ (by omega)
  · rename_i h3
    have := ok_rrr h3 h0
    have a := h (X i 2).toNat (by omega)
    have b := h (X i 3).toNat (by omega)
    revert a b
    cases e (X i 2).toNat <;> cases e (X i 3).toNat <;> simp [rcV]
  · intro e; cases e
theorem bhV_there (hok : ∀ i, i < l → ordE rg m lk l (X i 0) (X i 1) (X i 2) (X i 3) = 0) {i : Nat} (hi : i < l) {e : Nat → Vl} (h : ∀ r, r < rg → e r ≠ .no) {r : Nat} (hr : r < rg) : bhV X i e r ≠ .no := by
  unfold bhV
  split
  · exact mkV_there hok hi h
  · exact h r hr
/-- Of the least solution: where something is there, all is. -/
theorem LsV.there (h : LsV X l rg E) (hok : ∀ i, i < l → ordE rg m lk l (X i 0) (X i 1) (X i 2) (X i 3) = 0) {i s : Nat} (hi : i ≤ l) (hs : s < rg) (hne : E i s ≠ .no) : ∀ r, r < rg → E i r ≠ .no := by
  classical
  have hF : SolV X l rg (fun i r => if ∀ q, q < rg → E i q ≠ .no then E i r else .no) := by
    have h0 : ∀ q, q < rg → E 0 q ≠ .no := fun q hq e => by
      have := h.sol.z q hq
      rw [e] at this
      have := Vl.le_no this
      cases this
    refine ⟨fun r hr => ?_, fun i s hi hs hne j hj r hr => ?_⟩
    · rw [if_pos h0]
      exact h.sol.z r hr
    · by_cases ha : ∀ q, q < rg → E i q ≠ .no
      · have e : (fun r => if ∀ q, q < rg → E i q ≠ .no then E i r else .no) = E i := by
          funext r
          rw [if_pos ha]
        rw [e] at hj ⊢
        have hall : ∀ q, q < rg → E j q ≠ .no := fun q hq e2 => by
          have h1 := h.sol.s i s hi hs (ha s hs) j hj q hq
          rw [e2] at h1
          exact bhV_there hok hi ha hq (Vl.le_no h1)
        rw [if_pos hall]
        exact h.sol.s i s hi hs (ha s hs) j hj r hr
      · rw [if_neg ha] at hne
        exact absurd rfl hne
  intro r hr
  have h1 := h.least _ hF i s hi hs
  split at h1
  · rename_i ha
    exact ha r hr
  · exact absurd (Vl.le_no h1) hne
end

/-! How far all may still grow. -/
def sumR (f : Nat → Nat) : Nat → Nat
  | 0 => 0
  | k + 1 => sumR f k + f k
theorem sumR_le {f g : Nat → Nat} : ∀ {k : Nat}, (∀ i, i < k → f i ≤ g i) → sumR f k ≤ sumR g k
  | 0, _ => Nat.le_refl _
  | k + 1, h => Nat.add_le_add (sumR_le fun i hi => h i (by omega)) (h k (by omega))
theorem sumR_lt {f g : Nat → Nat} : ∀ {k : Nat}, (∀ i, i < k → f i ≤ g i) → ∀ {j : Nat}, j < k → f j < g j → sumR f k < sumR g k
  | 0, _, j, hj, _ => absurd hj (by omega)
  | k + 1, h, j, hj, hlt => by
    rw [sumR, sumR]
    by_cases e : j = k
    · subst e
      exact Nat.add_lt_add_of_le_of_lt (sumR_le fun i hi => h i (by omega)) hlt
    · exact Nat.add_lt_add_of_lt_of_le (sumR_lt (fun i hi => h i (by omega)) (show j < k by omega) hlt) (h k (by omega))
theorem sumR_bound {f : Nat → Nat} {c : Nat} : ∀ {k : Nat}, (∀ i, i < k → f i ≤ c) → sumR f k ≤ k * c
  | 0, _ => by simp [sumR]
  | k + 1, h => by
    rw [sumR, Nat.succ_mul]
    exact Nat.add_le_add (sumR_bound fun i hi => h i (by omega)) (h k (by omega))
def meas (l rg : Nat) (E : Nat → Nat → Vl) : Nat := sumR (fun i => sumR (fun r => (E i r).ht) rg) (l + 1)
/-- One value more. -/
def updE (E : Nat → Nat → Vl) (i s : Nat) (v : Vl) : Nat → Nat → Vl := fun j r => if j = i ∧ r = s then v else E j r
theorem updE_same (E : Nat → Nat → Vl) (i s : Nat) (v : Vl) : updE E i s v i s = v := if_pos ⟨rfl, rfl⟩
theorem updE_row {E : Nat → Nat → Vl} {i s j : Nat} {v : Vl} (h : j ≠ i) : updE E i s v j = E j := by
  funext r
  exact if_neg fun e => h e.1
theorem updE_le {E : Nat → Nat → Vl} {i s : Nat} {v : Vl} (h : (E i s).le v) (j r : Nat) : (E j r).le (updE E i s v j r) := by
  unfold updE
  split
  · rename_i e
    rw [e.1, e.2]
    exact h
  · exact Vl.le_refl _
theorem meas_lt {l rg : Nat} {E F : Nat → Nat → Vl} (h : ∀ i r, i ≤ l → r < rg → (E i r).le (F i r)) {i r : Nat} (hi : i ≤ l) (hr : r < rg) (hne : F i r ≠ E i r) : meas l rg F < meas l rg E :=
  sumR_lt (fun i hi => sumR_le fun r hr => Vl.ht_le (h i r (by omega) hr)) (show i < l + 1 by omega) (sumR_lt (fun q hq => Vl.ht_le (h i q hi hq)) hr (Vl.ht_lt (h i r hi hr) hne))
theorem meas_bound {l rg : Nat} {E : Nat → Nat → Vl} : meas l rg E ≤ (l + 1) * (rg * 2) :=
  sumR_bound fun i _ => sumR_bound fun r _ => by cases E i r <;> simp [Vl.ht]
end

section
open Go.RowKit

theorem bad_none {E : Nat → Int} : ∀ (f k : Nat), firstBad E f k = none → ∀ i, k ≤ i → i < k + f → E i = 0
  | 0, k, _, i, h1, h2 => by omega
  | f + 1, k, h, i, h1, h2 => by
    rw [firstBad] at h
    split at h
    · rename_i h0
      by_cases e : i = k
      · subst e; exact h0
      · exact bad_none f (k + 1) h i (by omega) (by omega)
    · cases h
theorem thread_ok {R : Nat → Option (Int × Int)} (hR : ∀ t c a, R t = some (c, a) → c ≠ 0) : ∀ (f k : Nat), (firstThread R f k).1 = 0 → ∀ i, k ≤ i → i < k + f → R i = none
  | 0, k, _, i, h1, h2 => by omega
  | f + 1, k, h, i, h1, h2 => by
    rw [firstThread] at h
    split at h
    · rename_i h0
      by_cases e : i = k
      · subst e; exact h0
      · exact thread_ok hR f (k + 1) h i (by omega) (by omega)
    · rename_i c a h0
      exact absurd h (hR k c a h0)
theorem thread_zero {R : Nat → Option (Int × Int)} (hR : ∀ t c a, R t = some (c, a) → c ≠ 0) : ∀ (f k : Nat), (firstThread R f k).1 = 0 → firstThread R f k = (0, 0, 0)
  | 0, _, _ => rfl
  | f + 1, k, h => by
    rw [firstThread] at h ⊢
    split at h
    · exact thread_zero hR f (k + 1) h
    · rename_i c a h0
      exact absurd h (hR k c a h0)
theorem bad_ne {E : Nat → Int} : ∀ (f k : Nat) (c a : Int), firstBad E f k = some (c, a) → c ≠ 0
  | 0, k, c, a, h => by simp [firstBad] at h
  | f + 1, k, c, a, h => by
    rw [firstBad] at h
    split at h
    · exact bad_ne f (k + 1) c a h
    · rename_i h0
      simp only [Option.some.injEq, Prod.mk.injEq] at h
      rw [← h.1]; exact h0
theorem thr_ne {rg wd lk : Int} {L : Nat → Nat} {X : Nat → Nat → Nat → Int} : ∀ t c a, thr rg wd lk L X t = some (c, a) → c ≠ 0 := fun t c a e => by
  unfold thr at e
  split at e
  · simp at e; omega
  · exact bad_ne _ _ _ _ e

/-- What Check lets pass: the sizes, every order. -/
theorem chk_cok {n m : Nat} {L : Nat → Nat} {X : Nat → Nat → Nat → Int} {lk rg x y z : Int} (h : chk n L X m lk rg = (x, y, z)) (hx : x = 0) : y = 0 ∧ z = 0 ∧ 0 < n ∧ ∃ lk' rg' : Nat, lk = lk' ∧ rg = rg' ∧ COk n L X m lk' rg' := by
  subst hx
  unfold chk at h
  split at h
  · rename_i h1
    simp only [Prod.mk.injEq] at h
    exact absurd h.1 h1
  · rename_i h1
    have h1 : sizesE n m lk rg = 0 := by simpa using h1
    unfold sizesE at h1
    split at h1
    · cases h1
    · split at h1
      · cases h1
      · rename_i h2 h3
        have hz := thread_zero thr_ne n 0 (by rw [h])
        rw [h] at hz
        simp only [Prod.mk.injEq] at hz
        have hR : ∀ t, t < n → thr rg m lk L X t = none := fun t ht => thread_ok thr_ne n 0 (by rw [h]) t (Nat.zero_le _) (by omega)
        have hL : ∀ t, t < n → L t ≤ 400 ∧ firstBad (fun i => ordE rg m lk (L t) (X t i 0) (X t i 1) (X t i 2) (X t i 3)) (L t) 0 = none := fun t ht => by
          have := hR t ht
          unfold thr at this
          split at this
          · cases this
          · exact ⟨by omega, this⟩
        obtain ⟨lk', rfl⟩ := Int.eq_ofNat_of_zero_le (by omega : 0 ≤ lk)
        obtain ⟨rg', rfl⟩ := Int.eq_ofNat_of_zero_le (by omega : 0 ≤ rg)
        exact ⟨hz.2.1, hz.2.2, by omega, lk', rg', rfl, rfl, by omega, fun t ht => Nat.le_trans (hL t ht).1 (by decide), by omega, by omega, by omega, by omega, fun t i ht hi => bad_none (L t) 0 (hL t ht).2 i (Nat.zero_le _) (by omega)⟩
/-- What Check lets pass has no long thread. -/
theorem chk_len {n : Nat} {L : Nat → Nat} {X : Nat → Nat → Nat → Int} {m : Nat} {lk rg : Int} (h : chk n L X m lk rg = (0, 0, 0)) : ∀ t, t < n → L t ≤ 400 := fun t ht => by
  unfold chk at h
  split at h
  · simp_all
  · have := thread_ok thr_ne n 0 (by rw [h]) t (Nat.zero_le _) (by omega)
    unfold thr at this
    split at this
    · cases this
    · omega
end

end Go.Proofs.YtkailbdjilkneaaDoor
