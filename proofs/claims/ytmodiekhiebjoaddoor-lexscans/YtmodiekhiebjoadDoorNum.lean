/-
  Numbers in decimal, as chapter 1 has them: one digit to nineteen, no nought ahead of others, a minus ahead but not of 0, within 64 bits.
-/
import Derived.Test.YtmodiekhiebjoadDoorBase
import Derived.Lib.AtoiAllCases
import Derived.Lib.Strings
namespace Go.Proofs.YtmodiekhiebjoadDoor

def isDig (c : UInt8) : Bool := decide (48 ≤ c.toNat) && decide (c.toNat ≤ 57)
/-- The number that digits tell. -/
def mag (l : List UInt8) : Nat := l.foldl (fun a c => a * 10 + (c.toNat - 48)) 0
def isNeg (l : List UInt8) : Bool := l.head? == some 45
def digs (l : List UInt8) : List UInt8 := if isNeg l then l.tail else l
def formed (l : List UInt8) : Bool := l.all isDig && decide (1 ≤ l.length) && decide (l.length ≤ 19)
/-- A number's text: what it tells, if it is one. -/
def numB (l : List UInt8) : Option Int :=
  if formed (digs l) && !((digs l).head? == some 48 && !(l == [48])) then
    if isNeg l then (if mag (digs l) ≤ 9223372036854775808 then some (-(mag (digs l) : Int)) else none)
    else if mag (digs l) ≤ 9223372036854775807 then some (mag (digs l) : Int) else none
  else none

theorem mag_snoc (l : List UInt8) (c : UInt8) : mag (l ++ [c]) = mag l * 10 + (c.toNat - 48) := by
  simp [mag]
def magFrom (a : Nat) (l : List UInt8) : Nat := l.foldl (fun a c => a * 10 + (c.toNat - 48)) a
theorem magFrom_lt : ∀ (l : List UInt8) (a : Nat), l.all isDig = true → magFrom a l < (a + 1) * 10 ^ l.length
  | [], a, _ => by simp [magFrom]
  | c :: r, a, h => by
    simp only [List.all_cons, Bool.and_eq_true] at h
    have h2 : c.toNat ≤ 57 := by have := h.1; simp [isDig] at this; omega
    have h3 := magFrom_lt r (a * 10 + (c.toNat - 48)) h.2
    have h4 : (a * 10 + (c.toNat - 48) + 1) * 10 ^ r.length ≤ (a + 1) * 10 * 10 ^ r.length := Nat.mul_le_mul_right _ (by omega)
    simp only [List.length_cons, Nat.pow_succ]
    calc magFrom a (c :: r) = magFrom (a * 10 + (c.toNat - 48)) r := rfl
      _ < (a * 10 + (c.toNat - 48) + 1) * 10 ^ r.length := h3
      _ ≤ (a + 1) * 10 * 10 ^ r.length := h4
      _ = (a + 1) * (10 ^ r.length * 10) := by rw [Nat.mul_assoc, Nat.mul_comm 10]
theorem mag_lt (l : List UInt8) (h : l.all isDig = true) (hl : l.length ≤ 19) : mag l < 10000000000000000000 := by
  have h1 := magFrom_lt l 0 h
  have h2 : 10 ^ l.length ≤ 10 ^ 19 := Nat.pow_le_pow_right (by omega) hl
  have h3 : magFrom 0 l = mag l := rfl
  omega

theorem parseUint10_mag : ∀ (l : List UInt8) (a : Nat), l.all isDig = true → (a + 1) * 10 ^ l.length ≤ 10000000000000000000 → Lib.parseUint10 a l = .ok (magFrom a l)
  | [], a, _, _ => rfl
  | c :: r, a, h, hb => by
    simp only [List.all_cons, Bool.and_eq_true] at h
    have hc : 48 ≤ c.toNat ∧ c.toNat ≤ 57 := by have := h.1; simp [isDig] at this; omega
    simp only [List.length_cons, Nat.pow_succ] at hb
    have hp : 1 ≤ 10 ^ r.length := Nat.pow_pos (by omega)
    have h4 : (a * 10 + (c.toNat - 48) + 1) * 10 ^ r.length ≤ (a + 1) * 10 * 10 ^ r.length := Nat.mul_le_mul_right _ (by omega)
    have h5 : (a + 1) * (10 ^ r.length * 10) = (a + 1) * 10 * 10 ^ r.length := by rw [Nat.mul_assoc, Nat.mul_comm 10]
    have h6 : a * 10 + (c.toNat - 48) + 1 ≤ (a * 10 + (c.toNat - 48) + 1) * 10 ^ r.length := Nat.le_mul_of_pos_right _ hp
    rw [Lib.parseUint10, if_pos hc, if_neg (by omega), if_neg (by omega)]
    exact parseUint10_mag r _ h.2 (by omega)

theorem parseMag_mag {l : List UInt8} (h : formed l = true) : Lib.parseMag l = .ok (mag l) := by
  simp only [formed, Bool.and_eq_true, decide_eq_true_eq] at h
  have h2 : 10 ^ l.length ≤ 10 ^ 19 := Nat.pow_le_pow_right (by omega) h.2
  unfold Lib.parseMag
  rw [if_neg (by intro e; rw [e] at h; simp at h)]
  exact parseUint10_mag l 0 h.1.1 (by omega)

/-- What the library reads of a text that is formed so. -/
theorem atoi_neg {l : List UInt8} (hn : isNeg l = true) (h : formed (digs l) = true) : Lib.atoiAll l = if mag (digs l) ≤ 9223372036854775808 then .ok (-(mag (digs l) : Int)) else .range := by
  match l, hn with
  | c :: r, hn =>
    have hc : c = 45 := by simpa [isNeg] using hn
    subst hc
    have hd : digs (45 :: r) = r := by simp [digs, isNeg]
    rw [hd] at h ⊢
    rw [Lib.atoiAll_minus, parseMag_mag h]
    simp only [Lib.signed]
    split <;> split <;> first | rfl | omega
theorem atoi_pos {l : List UInt8} (hn : isNeg l = false) (h : formed (digs l) = true) : Lib.atoiAll l = if mag (digs l) ≤ 9223372036854775807 then .ok (mag (digs l) : Int) else .range := by
  have hd : digs l = l := by simp [digs, hn]
  rw [hd] at h ⊢
  match l, h with
  | [], h => simp [formed] at h
  | c :: r, h =>
    have hc : 48 ≤ c.toNat := by have := h; simp [formed, isDig] at this; omega
    rw [Lib.atoiAll_plain c r (by omega) (by omega), parseMag_mag h]
    simp only [Lib.signless]
    split <;> split <;> first | rfl | omega
theorem atoi_not_syntax {l : List UInt8} (h : formed (digs l) = true) : Lib.atoiAll l ≠ .syntax := by
  by_cases hn : isNeg l = true
  · rw [atoi_neg hn h]; split <;> simp
  · rw [atoi_pos (by simpa using hn) h]; split <;> simp
theorem trim_digs (l : List UInt8) : Lib.trimPrefix l [45] = digs l := by
  match l with
  | [] => rfl
  | c :: r =>
    by_cases hc : c = 45
    · subst hc; simp [Lib.trimPrefix, Lib.hasPrefix, digs, isNeg]
    · simp [Lib.trimPrefix, Lib.hasPrefix, digs, isNeg, hc]
      exact fun e => hc e.symm

end Go.Proofs.YtmodiekhiebjoadDoor
