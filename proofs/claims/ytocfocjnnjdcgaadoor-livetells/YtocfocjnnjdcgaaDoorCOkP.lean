/-
  What an order's numbers may be, of a program that may be.
-/
import Derived.Test.YtocfocjnnjdcgaaDoorSmall
namespace Go.Proofs.YtocfocjnnjdcgaaDoor
open Go.RowKit

/-- The orders may be. -/
structure COk (n : Nat) (L : Nat → Nat) (X : Nat → Nat → Nat → Int) (m lk rg : Nat) : Prop where
  n4 : n ≤ 4
  L4 : ∀ t, t < n → L t ≤ 1000
  m64 : m ≤ 64
  lk4 : lk ≤ 4
  rg0 : 1 ≤ rg
  rg2 : rg ≤ 200
  ord : ∀ t i, t < n → i < L t → ordE rg m lk (L t) (X t i 0) (X t i 1) (X t i 2) (X t i 3) = 0

section
variable {rg m lk sz : Nat} {op a b c : Int}
theorem ok_op (h : ordE rg m lk sz op a b c = 0) : 1 ≤ op ∧ op ≤ 18 := by
  rcases op_cases op with h1 | h1
  · exfalso
    unfold ordE at h
    rw [kd_out h1] at h
    simp at h
  · omega
theorem ok_three {rg m lk sz : Int} {x y z : Int} (hk : kd op = some (x, y, z)) (h : ordE rg m lk sz op a b c = 0) : okN rg m lk sz x a = true ∧ okN rg m lk sz y b = true ∧ okN rg m lk sz z c = true := by
  unfold ordE at h
  rw [hk] at h
  simp only at h
  split at h
  · rename_i h1; simpa [and_assoc] using h1
  · omega
theorem okN_reg {rg m lk sz n : Int} (h : okN rg m lk sz 1 n = true) : 0 ≤ n ∧ n < rg := by simpa [okN, lim] using h
theorem okN_word {rg m lk sz n : Int} (h : okN rg m lk sz 2 n = true) : 0 ≤ n ∧ n < m := by simpa [okN, lim] using h
theorem okN_lock {rg m lk sz n : Int} (h : okN rg m lk sz 3 n = true) : 0 ≤ n ∧ n < lk := by simpa [okN, lim] using h
theorem okN_place {rg m lk sz n : Int} (h : okN rg m lk sz 4 n = true) : 0 ≤ n ∧ n ≤ sz := by
  have : 0 ≤ n ∧ n < sz + 1 := by simpa [okN, lim] using h
  omega
/-- An order of three registers. -/
theorem ok_rrr (ho : op = 3 ∨ op = 4 ∨ op = 5 ∨ op = 6 ∨ op = 7) (h : ordE rg m lk sz op a b c = 0) : (0 ≤ a ∧ a < rg) ∧ (0 ≤ b ∧ b < rg) ∧ (0 ≤ c ∧ c < rg) := by
  have hk : kd op = some (1, 1, 1) := by rcases ho with rfl | rfl | rfl | rfl | rfl <;> rfl
  have := ok_three hk h
  exact ⟨okN_reg this.1, okN_reg this.2.1, okN_reg this.2.2⟩
theorem ok_const (h : ordE rg m lk sz 1 a b c = 0) : 0 ≤ a ∧ a < rg := okN_reg (ok_three (op := 1) rfl h).1
theorem ok_rr (ho : op = 2 ∨ op = 10 ∨ op = 11) (h : ordE rg m lk sz op a b c = 0) : (0 ≤ a ∧ a < rg) ∧ (0 ≤ b ∧ b < rg) := by
  have hk : kd op = some (1, 1, 0) := by rcases ho with rfl | rfl | rfl <;> rfl
  have := ok_three hk h
  exact ⟨okN_reg this.1, okN_reg this.2.1⟩
theorem ok_load (h : ordE rg m lk sz 8 a b c = 0) : (0 ≤ a ∧ a < rg) ∧ (0 ≤ b ∧ b < m) := by
  have := ok_three (op := 8) rfl h
  exact ⟨okN_reg this.1, okN_word this.2.1⟩
theorem ok_store (h : ordE rg m lk sz 9 a b c = 0) : (0 ≤ a ∧ a < m) ∧ (0 ≤ b ∧ b < rg) := by
  have := ok_three (op := 9) rfl h
  exact ⟨okN_word this.1, okN_reg this.2.1⟩
theorem ok_cas (h : ordE rg m lk sz 13 a b c = 0) : (0 ≤ a ∧ a < m) ∧ (0 ≤ b ∧ b < rg) ∧ (0 ≤ c ∧ c < rg) := by
  have := ok_three (op := 13) rfl h
  exact ⟨okN_word this.1, okN_reg this.2.1, okN_reg this.2.2⟩
theorem ok_jump (h : ordE rg m lk sz 14 a b c = 0) : 0 ≤ a ∧ a ≤ sz := okN_place (ok_three (op := 14) rfl h).1
theorem ok_zero (h : ordE rg m lk sz 15 a b c = 0) : (0 ≤ a ∧ a < rg) ∧ (0 ≤ b ∧ b ≤ sz) := by
  have := ok_three (op := 15) rfl h
  exact ⟨okN_reg this.1, okN_place this.2.1⟩
theorem ok_print (h : ordE rg m lk sz 16 a b c = 0) : 0 ≤ a ∧ a < rg := okN_reg (ok_three (op := 16) rfl h).1
theorem ok_lock (ho : op = 17 ∨ op = 18) (h : ordE rg m lk sz op a b c = 0) : 0 ≤ a ∧ a < lk := by
  have hk : kd op = some (3, 0, 0) := by rcases ho with rfl | rfl <;> rfl
  exact okN_lock (ok_three hk h).1
end
theorem toN {a : Int} {n : Nat} (h : 0 ≤ a ∧ a < n) : ∃ k : Nat, a = k ∧ k < n := ⟨a.toNat, by omega, by omega⟩
theorem toN_le {a : Int} {n : Nat} (h : 0 ≤ a ∧ a ≤ n) : ∃ k : Nat, a = k ∧ k ≤ n := ⟨a.toNat, by omega, by omega⟩

end Go.Proofs.YtocfocjnnjdcgaaDoor
