/-
  Words in place of locks: what orders become, as plain functions.
-/
import Derived.Test.YtefnmbnakphhfadSOk
import Derived.Test.YtefnmbnakphhfadRunP
import Derived.Test.YtefnmbnakphhfadInProg
import Derived.Test.YtefnmbnakphhfadAppB
import Derived.Deep.QuietTactic
import Derived.BigQuiet
import Derived.BigRegion
import Derived.StillTailTactics
import Derived.Test.YtefnmbnakphhfadDSt2
import Derived.Test.YtefnmbnakphhfadFenA
import Derived.Test.YtefnmbnakphhfadFenL
namespace Go.Proofs.Ytefnmbnakphhfad
open Go.RowKit

/-- What takes a lock. -/
def takeL (wd at' : Int) : List I4 := [(1, 6, 0, 0), (1, 7, 1, 0), (13, wd, 6, 7), (15, 6, at', 0)]
/-- What lets a lock free. -/
def giveL (wd : Int) : List I4 := [(1, 6, 0, 0), (9, wd, 6, 0)]
/-- What an order becomes. -/
def bSpin (m : Nat) (X : Nat → Nat → Nat → Int) : Nat → Nat → List I4 := fun t i =>
  if X t i 0 = 17 then takeL ((m : Int) + X t i 1) i else if X t i 0 = 18 then giveL ((m : Int) + X t i 1) else [ordAt X t i]
section
variable {m : Nat} {X : Nat → Nat → Nat → Int} {t i : Nat}
theorem spin_17 (h : X t i 0 = 17) : bSpin m X t i = takeL ((m : Int) + X t i 1) i := by unfold bSpin; rw [if_pos h]
theorem spin_18 (h : X t i 0 = 18) : bSpin m X t i = giveL ((m : Int) + X t i 1) := by unfold bSpin; rw [if_neg (by omega), if_pos h]
theorem spin_no (h : X t i 0 ≠ 17) (h' : X t i 0 ≠ 18) : bSpin m X t i = [ordAt X t i] := by unfold bSpin; rw [if_neg h, if_neg h']
theorem spin_len : (bSpin m X t i).length ≤ 4 ∧ 1 ≤ (bSpin m X t i).length := by
  unfold bSpin
  split
  · exact ⟨by simp [takeL], by simp [takeL]⟩
  · split
    · exact ⟨by simp [giveL], by simp [giveL]⟩
    · exact ⟨by simp, by simp⟩
end
theorem spin_pl (m : Nat) (X : Nat → Nat → Nat → Int) (t i : Nat) : plR (bSpin m X t) i ≤ 4 * i := by
  induction i with
  | zero => exact Nat.le_refl _
  | succ i ih =>
    rw [plR]
    have := (spin_len (m := m) (X := X) (t := t) (i := i)).1
    omega
/-- What orders become may be, with more words, no locks, and eight registers. -/
theorem spin_ord {m lk rg sz : Nat} {X : Nat → Nat → Nat → Int} {t i : Nat} (hg : rg ≤ 6) (hi : i ≤ sz) (h : ordE rg m lk sz (X t i 0) (X t i 1) (X t i 2) (X t i 3) = 0) {x : I4} (hx : x ∈ bSpin m X t i) : ordE (8 : Nat) ((m + lk : Nat) : Int) (0 : Nat) sz x.1 x.2.1 x.2.2.1 x.2.2.2 = 0 := by
  have k1 : ∀ a : Int, okN rg m lk sz 1 a = true → okN (8 : Nat) ((m + lk : Nat) : Int) (0 : Nat) sz 1 a = true := fun a ha => by
    have := okN_reg ha
    simp [okN, lim]
    omega
  have k2 : ∀ a : Int, okN rg m lk sz 2 a = true → okN (8 : Nat) ((m + lk : Nat) : Int) (0 : Nat) sz 2 a = true := fun a ha => by
    have := okN_word ha
    simp [okN, lim]
    omega
  have fin : ∀ {op a b c x y z : Int}, kd op = some (x, y, z) → okN (8 : Nat) ((m + lk : Nat) : Int) (0 : Nat) sz x a = true → okN (8 : Nat) ((m + lk : Nat) : Int) (0 : Nat) sz y b = true → okN (8 : Nat) ((m + lk : Nat) : Int) (0 : Nat) sz z c = true → ordE (8 : Nat) ((m + lk : Nat) : Int) (0 : Nat) sz op a b c = 0 := fun hk h1 h2 h3 => by
    unfold ordE
    rw [hk]
    simp only
    rw [h1, h2, h3]
    rfl
  by_cases h17 : X t i 0 = 17
  · rw [spin_17 h17] at hx
    rw [h17] at h
    have o := ok_lock (Or.inl rfl) h
    simp only [takeL, List.mem_cons, List.not_mem_nil, or_false] at hx
    rcases hx with rfl | rfl | rfl | rfl
    · exact fin (x := 1) (y := 5) (z := 0) rfl rfl rfl rfl
    · exact fin (x := 1) (y := 5) (z := 0) rfl rfl rfl rfl
    · refine fin (x := 2) (y := 1) (z := 1) rfl ?_ rfl rfl
      simp [okN, lim]
      omega
    · refine fin (x := 1) (y := 4) (z := 0) rfl rfl ?_ rfl
      simp [okN, lim]
      omega
  by_cases h18 : X t i 0 = 18
  · rw [spin_18 h18] at hx
    rw [h18] at h
    have o := ok_lock (Or.inr rfl) h
    simp only [giveL, List.mem_cons, List.not_mem_nil, or_false] at hx
    rcases hx with rfl | rfl
    · exact fin (x := 1) (y := 5) (z := 0) rfl rfl rfl rfl
    · refine fin (x := 2) (y := 1) (z := 0) rfl ?_ rfl rfl
      simp [okN, lim]
      omega
  rw [spin_no h17 h18] at hx
  have hx : x = ordAt X t i := by simpa using hx
  subst hx
  show ordE _ _ _ _ (X t i 0) (X t i 1) (X t i 2) (X t i 3) = 0
  obtain ⟨op, hop⟩ : ∃ o, X t i 0 = o := ⟨_, rfl⟩
  rw [hop] at h h17 h18 ⊢
  have ho := ok_op h
  rcases op_cases op with e | rfl | rfl | rfl | rfl | rfl | rfl | rfl | rfl | rfl | rfl | rfl | rfl | rfl | rfl | rfl | rfl | rfl | rfl
  · omega
  · have q := ok_three (op := 1) rfl h
    exact fin (x := 1) (y := 5) (z := 0) rfl (k1 _ q.1) q.2.1 q.2.2
  · have q := ok_three (op := 2) rfl h
    exact fin (x := 1) (y := 1) (z := 0) rfl (k1 _ q.1) (k1 _ q.2.1) q.2.2
  · have q := ok_three (op := 3) rfl h
    exact fin (x := 1) (y := 1) (z := 1) rfl (k1 _ q.1) (k1 _ q.2.1) (k1 _ q.2.2)
  · have q := ok_three (op := 4) rfl h
    exact fin (x := 1) (y := 1) (z := 1) rfl (k1 _ q.1) (k1 _ q.2.1) (k1 _ q.2.2)
  · have q := ok_three (op := 5) rfl h
    exact fin (x := 1) (y := 1) (z := 1) rfl (k1 _ q.1) (k1 _ q.2.1) (k1 _ q.2.2)
  · have q := ok_three (op := 6) rfl h
    exact fin (x := 1) (y := 1) (z := 1) rfl (k1 _ q.1) (k1 _ q.2.1) (k1 _ q.2.2)
  · have q := ok_three (op := 7) rfl h
    exact fin (x := 1) (y := 1) (z := 1) rfl (k1 _ q.1) (k1 _ q.2.1) (k1 _ q.2.2)
  · have q := ok_three (op := 8) rfl h
    exact fin (x := 1) (y := 2) (z := 0) rfl (k1 _ q.1) (k2 _ q.2.1) q.2.2
  · have q := ok_three (op := 9) rfl h
    exact fin (x := 2) (y := 1) (z := 0) rfl (k2 _ q.1) (k1 _ q.2.1) q.2.2
  · have q := ok_three (op := 10) rfl h
    exact fin (x := 1) (y := 1) (z := 0) rfl (k1 _ q.1) (k1 _ q.2.1) q.2.2
  · have q := ok_three (op := 11) rfl h
    exact fin (x := 1) (y := 1) (z := 0) rfl (k1 _ q.1) (k1 _ q.2.1) q.2.2
  · have q := ok_three (op := 12) rfl h
    exact fin (x := 0) (y := 0) (z := 0) rfl q.1 q.2.1 q.2.2
  · have q := ok_three (op := 13) rfl h
    exact fin (x := 2) (y := 1) (z := 1) rfl (k2 _ q.1) (k1 _ q.2.1) (k1 _ q.2.2)
  · have q := ok_three (op := 14) rfl h
    exact fin (x := 4) (y := 0) (z := 0) rfl q.1 q.2.1 q.2.2
  · have q := ok_three (op := 15) rfl h
    exact fin (x := 1) (y := 4) (z := 0) rfl (k1 _ q.1) q.2.1 q.2.2
  · have q := ok_three (op := 16) rfl h
    exact fin (x := 1) (y := 0) (z := 0) rfl (k1 _ q.1) q.2.1 q.2.2
  · exact absurd rfl h17
  · exact absurd rfl h18
theorem spin_ok {n m lk rg : Nat} {L : Nat → Nat} {X : Nat → Nat → Nat → Int} (hc : COk n L X m lk rg) (hg : rg ≤ 6) : ∀ t i, t < n → i < lenR (bSpin m X) L t → ordE (8 : Nat) ((m + lk : Nat) : Int) (0 : Nat) (lenR (bSpin m X) L t) (numR (bSpin m X) L t i 0) (numR (bSpin m X) L t i 1) (numR (bSpin m X) L t i 2) (numR (bSpin m X) L t i 3) = 0 := by
  intro t j ht hj
  unfold lenR at hj
  rw [code_len] at hj
  obtain ⟨i, k, hi, hk, rfl⟩ := raw_find hj
  have h1 := code_at hk hi fenceI
  have hx : (bSpin m X t i).getD k fenceI ∈ bSpin m X t i := by
    rw [List.getD_eq_getElem?_getD, List.getElem?_eq_getElem hk]
    exact List.getElem_mem hk
  unfold numR
  rw [h1]
  exact led_ok (sz := L t) (x := (bSpin m X t i).getD k fenceI) (spin_ord hg (by omega) (hc.ord t i ht hi) hx) (fun a ha => by unfold lenR; rw [code_len]; exact pl_mono ha)
/-- All that can be wrong with the new program is that a thread has too many orders. -/
theorem spin_chk {n m lk rg : Nat} {L : Nat → Nat} {X : Nat → Nat → Nat → Int} (hc : COk n L X m lk rg) (hn : 0 < n) (hg : rg ≤ 6) (hm : m + lk ≤ 64) : chk n (lenR (bSpin m X) L) (numR (bSpin m X) L) (m + lk) 0 8 = firstThread (longR (lenR (bSpin m X) L)) n 0 := by
  have h0 : sizesE n (m + lk) 0 8 = 0 := by
    have h1 := hc.n4
    unfold sizesE
    rw [if_neg (by omega), if_neg (by omega)]
  unfold chk
  rw [h0, if_neg (by simp)]
  refine first_congr n 0 fun t _ ht => ?_
  have htn : t < n := by omega
  unfold thr longR
  by_cases e : 400 < lenR (bSpin m X) L t
  · rw [if_pos e, if_pos e]
  · rw [if_neg e, if_neg e]
    exact bad_all _ _ fun i _ hi => spin_ok hc hg t i htn (by omega)
/-- What orders become may be led on. -/
theorem spin_led {n m lk rg : Nat} {L : Nat → Nat} {X : Nat → Nat → Nat → Int} (hc : COk n L X m lk rg) (hg : rg ≤ 6) {t i : Nat} (ht : t < n) (hi : i < L t) {x : I4} (hx : x ∈ bSpin m X t i) : (1 ≤ x.1 ∧ x.1 ≤ 18) ∧ (x.1 = 14 → 0 ≤ x.2.1 ∧ x.2.1 ≤ L t) ∧ (x.1 = 15 → 0 ≤ x.2.2.1 ∧ x.2.2.1 ≤ L t) := by
  have h := spin_ord hg (Nat.le_of_lt hi) (hc.ord t i ht hi) hx
  obtain ⟨o, a, b, c⟩ := x
  refine ⟨ok_op h, fun e => ?_, fun e => ?_⟩
  · have e' : o = 14 := e
    subst e'
    exact ok_jump h
  · have e' : o = 15 := e
    subst e'
    exact (ok_zero h).2

end Go.Proofs.Ytefnmbnakphhfad
