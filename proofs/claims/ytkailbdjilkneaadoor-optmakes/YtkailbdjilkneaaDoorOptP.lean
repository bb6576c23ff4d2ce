/-
  What chapter 14 says of values that are always the same: the least solution, and the passes that find it.
-/
import Derived.Test.YtkailbdjilkneaaDoorCOkP
namespace Go.Proofs.YtkailbdjilkneaaDoor
open Go.RowKit

/-- What is known of a value: it is not there; it is always the number; it is any. -/
inductive Vl
  | no
  | num (n : Int)
  | any
deriving DecidableEq, Inhabited
def Vl.st : Vl → Nat
  | .no => 0
  | .num _ => 1
  | .any => 2
def Vl.nb : Vl → Int
  | .num n => n
  | _ => 0
/-- Two that come together. -/
def Vl.meet : Vl → Vl → Vl
  | .no, b => b
  | a, .no => a
  | .num m, .num n => if m = n then .num m else .any
  | _, _ => .any
def Vl.le (a b : Vl) : Prop := a = b ∨ a = .no ∨ b = .any
/-- How far it may still grow. -/
def Vl.ht : Vl → Nat
  | .no => 2
  | .num _ => 1
  | .any => 0
theorem Vl.le_refl (a : Vl) : a.le a := Or.inl rfl
theorem Vl.no_le (a : Vl) : Vl.no.le a := Or.inr (Or.inl rfl)
theorem Vl.le_any (a : Vl) : a.le .any := Or.inr (Or.inr rfl)
theorem Vl.le_no {a : Vl} (h : a.le .no) : a = .no := by
  rcases h with h | h | h
  · exact h
  · exact h
  · cases h
theorem Vl.any_le {a : Vl} (h : Vl.any.le a) : a = .any := by
  rcases h with h | h | h
  · exact h.symm
  · cases h
  · exact h
theorem Vl.num_le {a : Vl} {n : Int} (h : (Vl.num n).le a) : a = .any ∨ a = .num n := by
  rcases h with h | h | h
  · exact Or.inr h.symm
  · cases h
  · exact Or.inl h
theorem Vl.le_trans {a b c : Vl} (h1 : a.le b) (h2 : b.le c) : a.le c := by
  rcases h1 with rfl | rfl | rfl
  · exact h2
  · exact Vl.no_le _
  · rw [Vl.any_le h2]; exact Vl.le_any _
theorem Vl.le_antisymm {a b : Vl} (h1 : a.le b) (h2 : b.le a) : a = b := by
  rcases h1 with h | rfl | rfl
  · exact h
  · exact (Vl.le_no h2).symm
  · exact Vl.any_le h2
theorem Vl.le_meet_l (a b : Vl) : a.le (a.meet b) := by
  cases a <;> cases b <;> simp only [Vl.meet] <;> first
    | exact Vl.le_refl _
    | exact Vl.no_le _
    | exact Vl.le_any _
    | (split <;> first | exact Vl.le_refl _ | exact Vl.le_any _)
theorem Vl.le_meet_r (a b : Vl) : b.le (a.meet b) := by
  cases a <;> cases b <;> simp only [Vl.meet] <;> first
    | exact Vl.le_refl _
    | exact Vl.no_le _
    | exact Vl.le_any _
    | (split <;> first | (rename_i e; rw [e]; exact Vl.le_refl _) | exact Vl.le_any _)
theorem Vl.meet_le {a b c : Vl} (h1 : a.le c) (h2 : b.le c) : (a.meet b).le c := by
  cases a with
  | no => exact h2
  | any => rw [Vl.any_le h1]; exact Vl.le_any _
  | num m =>
    cases b with
    | no => exact h1
    | any => rw [Vl.any_le h2]; exact Vl.le_any _
    | num n =>
      rcases Vl.num_le h1 with rfl | rfl
      · exact Vl.le_any _
      · rcases Vl.num_le h2 with h | h
        · cases h
        · cases h
          simp only [Vl.meet, ↓reduceIte]
          exact Vl.le_refl _
theorem Vl.ht_le {a b : Vl} (h : a.le b) : b.ht ≤ a.ht := by
  rcases h with rfl | rfl | rfl
  · exact Nat.le_refl _
  · cases b <;> simp [Vl.ht]
  · simp [Vl.ht]
theorem Vl.ht_lt {a b : Vl} (h : a.le b) (hne : b ≠ a) : b.ht < a.ht := by
  rcases h with rfl | rfl | rfl
  · exact absurd rfl hne
  · cases b <;> first | exact absurd rfl hne | simp [Vl.ht]
  · cases a <;> first | exact absurd rfl hne | simp [Vl.ht]
theorem Vl.st_num {a : Vl} : a.st = 1 ↔ a = .num a.nb := by cases a <;> simp [Vl.st, Vl.nb]
/-- What an order reckons of two numbers. -/
def rcI (op b c : Int) : Int :=
  if op = 3 then IntKind.i64.wrap (b + c) else if op = 4 then IntKind.i64.wrap (b - c) else if op = 5 then IntKind.i64.wrap (b * c) else if op = 6 then bitI (decide (b < c)) else if op = 7 then bitI (decide (b = c)) else b
def rcV (op : Int) : Vl → Vl → Vl
  | .no, _ => .no
  | _, .no => .no
  | .num b, .num c => .num (rcI op b c)
  | _, _ => .any
/-- What becomes of the register that an order writes; e: what is known ahead of it. -/
def mkV (op b c : Int) (e : Nat → Vl) : Vl :=
  if op = 1 then .num b else if op = 2 then e b.toNat else if op = 3 ∨ op = 4 ∨ op = 5 ∨ op = 6 ∨ op = 7 then rcV op (e b.toNat) (e c.toNat) else .any
/-- What a register holds behind an order. -/
def bhV (X : Nat → Nat → Int) (i : Nat) (e : Nat → Vl) (r : Nat) : Vl := if wrX X i = (r : Int) then mkV (X i 0) (X i 2) (X i 3) e else e r
/-- Where an order can lead on. -/
def wyL (op a b : Int) (i : Nat) (v : Vl) : List Nat :=
  if op = 15 then (match v with | .no => [] | .any => [i + 1, b.toNat] | .num n => if n = 0 then [b.toNat] else [i + 1]) else nxL op a b i
def wyX (X : Nat → Nat → Int) (i : Nat) (e : Nat → Vl) : List Nat := wyL (X i 0) (X i 1) (X i 2) i (e (X i 1).toNat)
theorem rcV_mono {op : Int} {b b' c c' : Vl} (h1 : b.le b') (h2 : c.le c') : (rcV op b c).le (rcV op b' c') := by
  rcases h1 with rfl | rfl | rfl
  · rcases h2 with rfl | rfl | rfl
    · exact Vl.le_refl _
    · cases b <;> exact Vl.no_le _
    · cases b
      · exact Vl.le_refl _
      · exact Vl.le_any _
      · exact Vl.le_any _
  · exact Vl.no_le _
  · cases c' with
    | no => rw [Vl.le_no h2]; cases b <;> exact Vl.no_le _
    | num n => exact Vl.le_any _
    | any => exact Vl.le_any _
/-- What mkV hangs on. -/
theorem mkV_mono2 {rg m lk sz : Nat} {op a b c : Int} (ho : ordE rg m lk sz op a b c = 0) {e f : Nat → Vl} (h : ∀ r, r < rg → (e r).le (f r)) : (mkV op b c e).le (mkV op b c f) := by
  unfold mkV
  repeat' split
  · exact Vl.le_refl _
  · rename_i h2
    subst h2
    have := (ok_rr (by omega) ho).2
    exact h _ (by omega)
  · rename_i h3
    have := ok_rrr h3 ho
    exact rcV_mono (h _ (by omega)) (h _ (by omega))
  · exact Vl.le_refl _
theorem wyL_mono {op a b : Int} {i : Nat} {v u : Vl} (h : v.le u) {j : Nat} (hj : j ∈ wyL op a b i v) : j ∈ wyL op a b i u := by
  unfold wyL at hj ⊢
  split
  · rename_i e
    rw [if_pos e] at hj
    rcases h with rfl | rfl | rfl
    · exact hj
    · cases hj
    · cases v with
      | no => cases hj
      | any => exact hj
      | num n =>
        simp only at hj ⊢
        split at hj <;> simp_all
  · rename_i e
    rw [if_neg e] at hj
    exact hj
theorem wyL_nx {op a b : Int} {i : Nat} {v : Vl} {j : Nat} (hj : j ∈ wyL op a b i v) : j ∈ nxL op a b i := by
  unfold wyL at hj
  split at hj
  · rename_i e
    subst e
    show j ∈ (if (15 : Int) = 14 then _ else if (15 : Int) = 15 then [i + 1, b.toNat] else [i + 1])
    rw [if_neg (by decide), if_pos rfl]
    cases v with
    | no => cases hj
    | any => exact hj
    | num n =>
      simp only at hj
      split at hj <;> simp_all
  · exact hj

/-- What is known of a thread: some solution. -/
structure SolV (X : Nat → Nat → Int) (l rg : Nat) (E : Nat → Nat → Vl) : Prop where
  z : ∀ r, r < rg → (Vl.num 0).le (E 0 r)
  s : ∀ i s, i < l → s < rg → E i s ≠ .no → ∀ j, j ∈ wyX X i (E i) → ∀ r, r < rg → (bhV X i (E i) r).le (E j r)
/-- The least one. -/
structure LsV (X : Nat → Nat → Int) (l rg : Nat) (E : Nat → Nat → Vl) : Prop where
  sol : SolV X l rg E
  least : ∀ F, SolV X l rg F → ∀ i r, i ≤ l → r < rg → (E i r).le (F i r)
theorem LsV.same {X : Nat → Nat → Int} {l rg : Nat} {E F : Nat → Nat → Vl} (h1 : LsV X l rg E) (h2 : LsV X l rg F) {i r : Nat} (hi : i ≤ l) (hr : r < rg) : E i r = F i r :=
  Vl.le_antisymm (h1.least F h2.sol i r hi hr) (h2.least E h1.sol i r hi hr)
section
variable {X : Nat → Nat → Int} {l rg m lk : Nat} {E : Nat → Nat → Vl}
theorem bhV_mono (hok : ∀ i, i < l → ordE rg m lk l (X i 0) (X i 1) (X i 2) (X i 3) = 0) {i : Nat} (hi : i < l) {e f : Nat → Vl} (h : ∀ r, r < rg → (e r).le (f r)) {r : Nat} (hr : r < rg) : (bhV X i e r).le (bhV X i f r) := by
  unfold bhV
  split
  · exact mkV_mono2 (hok i hi) h
  · exact h r hr
theorem wy_reg (hok : ∀ i, i < l → ordE rg m lk l (X i 0) (X i 1) (X i 2) (X i 3) = 0) {i : Nat} (hi : i < l) {e f : Nat → Vl} (h : ∀ r, r < rg → (e r).le (f r)) {j : Nat} (hj : j ∈ wyX X i e) : j ∈ wyX X i f := by
  unfold wyX at hj ⊢
  by_cases h15 : X i 0 = 15
  · have h0 := hok i hi
    rw [h15] at h0
    have := (ok_zero h0).1
    exact wyL_mono (h _ (by omega)) hj
  · unfold wyL at hj ⊢
    rw [if_neg h15] at hj ⊢
    exact hj
theorem wy_le (hok : ∀ i, i < l → ordE rg m lk l (X i 0) (X i 1) (X i 2) (X i 3) = 0) {i : Nat} (hi : i < l) {e : Nat → Vl} {j : Nat} (hj : j ∈ wyX X i e) : j ≤ l :=
  ok_nx hi (hok i hi) j (wyL_nx hj)
theorem mkV_there (hok : ∀ i, i < l → ordE rg m lk l (X i 0) (X i 1) (X i 2) (X i 3) = 0) {i : Nat} (hi : i < l) {e : Nat → Vl} (h : ∀ r, r < rg → e r ≠ .no) : mkV (X i 0) (X i 2) (X i 3) e ≠ .no := by
  have h0 := hok i hi
  unfold mkV
  repeat' split
  · intro e; cases e
  · rename_i h2
    rw [h2] at h0
    have := (ok_rr (by omega) h0).2
    exact h _ (by omega)
  · rename_i h3
    have := ok_rrr h3 h0
    have a := h (X i 2).toNat (by omega)
    have b := h (X i 3).toNat (by omega)
    revert a b
    cases e (X i 2).toNat <;> cases e (X i 3).toNat <;> simp [rcV]
  · intro e; cases e
theorem bhV_there (hok : ∀ i, i < l → ordE rg m lk l (X i 0) (X i 1) (X i 2) (X i 3) = 0) {i : Nat} (hi : i < l) {e : Nat → Vl} (h : ∀ r, r < rg → e r ≠ .no) {r : Nat} (hr : r < rg) : bhV X i e r ≠ .no := by
  unfold bhV
  split
  · exact mkV_there hok hi h
  · exact h r hr
/-- Of the least solution: where something is there, all is. -/
theorem LsV.there (h : LsV X l rg E) (hok : ∀ i, i < l → ordE rg m lk l (X i 0) (X i 1) (X i 2) (X i 3) = 0) {i s : Nat} (hi : i ≤ l) (hs : s < rg) (hne : E i s ≠ .no) : ∀ r, r < rg → E i r ≠ .no := by
  classical
  have hF : SolV X l rg (fun i r => if ∀ q, q < rg → E i q ≠ .no then E i r else .no) := by
    have h0 : ∀ q, q < rg → E 0 q ≠ .no := fun q hq e => by
      have := h.sol.z q hq
      rw [e] at this
      have := Vl.le_no this
      cases this
    refine ⟨fun r hr => ?_, fun i s hi hs hne j hj r hr => ?_⟩
    · rw [if_pos h0]
      exact h.sol.z r hr
    · by_cases ha : ∀ q, q < rg → E i q ≠ .no
      · have e : (fun r => if ∀ q, q < rg → E i q ≠ .no then E i r else .no) = E i := by
          funext r
          rw [if_pos ha]
        rw [e] at hj ⊢
        have hall : ∀ q, q < rg → E j q ≠ .no := fun q hq e2 => by
          have h1 := h.sol.s i s hi hs (ha s hs) j hj q hq
          rw [e2] at h1
          exact bhV_there hok hi ha hq (Vl.le_no h1)
        rw [if_pos hall]
        exact h.sol.s i s hi hs (ha s hs) j hj r hr
      · rw [if_neg ha] at hne
        exact absurd rfl hne
  intro r hr
  have h1 := h.least _ hF i s hi hs
  split at h1
  · rename_i ha
    exact ha r hr
  · exact absurd (Vl.le_no h1) hne
end

/-! How far all may still grow. -/
def sumR (f : Nat → Nat) : Nat → Nat
  | 0 => 0
  | k + 1 => sumR f k + f k
theorem sumR_le {f g : Nat → Nat} : ∀ {k : Nat}, (∀ i, i < k → f i ≤ g i) → sumR f k ≤ sumR g k
  | 0, _ => Nat.le_refl _
  | k + 1, h => Nat.add_le_add (sumR_le fun i hi => h i (by omega)) (h k (by omega))
theorem sumR_lt {f g : Nat → Nat} : ∀ {k : Nat}, (∀ i, i < k → f i ≤ g i) → ∀ {j : Nat}, j < k → f j < g j → sumR f k < sumR g k
  | 0, _, j, hj, _ => absurd hj (by omega)
  | k + 1, h, j, hj, hlt => by
    rw [sumR, sumR]
    by_cases e : j = k
    · subst e
      exact Nat.add_lt_add_of_le_of_lt (sumR_le fun i hi => h i (by omega)) hlt
    · exact Nat.add_lt_add_of_lt_of_le (sumR_lt (fun i hi => h i (by omega)) (show j < k by omega) hlt) (h k (by omega))
theorem sumR_bound {f : Nat → Nat} {c : Nat} : ∀ {k : Nat}, (∀ i, i < k → f i ≤ c) → sumR f k ≤ k * c
  | 0, _ => by simp [sumR]
  | k + 1, h => by
    rw [sumR, Nat.succ_mul]
    exact Nat.add_le_add (sumR_bound fun i hi => h i (by omega)) (h k (by omega))
def meas (l rg : Nat) (E : Nat → Nat → Vl) : Nat := sumR (fun i => sumR (fun r => (E i r).ht) rg) (l + 1)
/-- One value more. -/
def updE (E : Nat → Nat → Vl) (i s : Nat) (v : Vl) : Nat → Nat → Vl := fun j r => if j = i ∧ r = s then v else E j r
theorem updE_same (E : Nat → Nat → Vl) (i s : Nat) (v : Vl) : updE E i s v i s = v := if_pos ⟨rfl, rfl⟩
theorem updE_row {E : Nat → Nat → Vl} {i s j : Nat} {v : Vl} (h : j ≠ i) : updE E i s v j = E j := by
  funext r
  exact if_neg fun e => h e.1
theorem updE_le {E : Nat → Nat → Vl} {i s : Nat} {v : Vl} (h : (E i s).le v) (j r : Nat) : (E j r).le (updE E i s v j r) := by
  unfold updE
  split
  · rename_i e
    rw [e.1, e.2]
    exact h
  · exact Vl.le_refl _
theorem meas_le {l rg : Nat} {E F : Nat → Nat → Vl} (h : ∀ i r, i ≤ l → r < rg → (E i r).le (F i r)) : meas l rg F ≤ meas l rg E :=
  sumR_le fun i hi => sumR_le fun r hr => Vl.ht_le (h i r (by omega) hr)
theorem meas_lt {l rg : Nat} {E F : Nat → Nat → Vl} (h : ∀ i r, i ≤ l → r < rg → (E i r).le (F i r)) {i r : Nat} (hi : i ≤ l) (hr : r < rg) (hne : F i r ≠ E i r) : meas l rg F < meas l rg E :=
  sumR_lt (fun i hi => sumR_le fun r hr => Vl.ht_le (h i r (by omega) hr)) (show i < l + 1 by omega) (sumR_lt (fun q hq => Vl.ht_le (h i q hi hq)) hr (Vl.ht_lt (h i r hi hr) hne))
theorem meas_bound {l rg : Nat} {E : Nat → Nat → Vl} : meas l rg E ≤ (l + 1) * (rg * 2) :=
  sumR_bound fun i _ => sumR_bound fun r _ => by cases E i r <;> simp [Vl.ht]

end Go.Proofs.YtkailbdjilkneaaDoor
