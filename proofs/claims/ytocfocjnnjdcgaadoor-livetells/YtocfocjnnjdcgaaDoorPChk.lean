/-
  A program that passed Check.
-/
import Derived.Test.YtocfocjnnjdcgaaDoorCOkP
namespace Go.Proofs.YtocfocjnnjdcgaaDoor
open Go.RowKit

theorem bad_none {E : Nat → Int} : ∀ (f k : Nat), firstBad E f k = none → ∀ i, k ≤ i → i < k + f → E i = 0
  | 0, k, _, i, h1, h2 => by omega
  | f + 1, k, h, i, h1, h2 => by
    rw [firstBad] at h
    split at h
    · rename_i h0
      by_cases e : i = k
      · subst e; exact h0
      · exact bad_none f (k + 1) h i (by omega) (by omega)
    · cases h
theorem thread_ok {R : Nat → Option (Int × Int)} (hR : ∀ t c a, R t = some (c, a) → c ≠ 0) : ∀ (f k : Nat), (firstThread R f k).1 = 0 → ∀ i, k ≤ i → i < k + f → R i = none
  | 0, k, _, i, h1, h2 => by omega
  | f + 1, k, h, i, h1, h2 => by
    rw [firstThread] at h
    split at h
    · rename_i h0
      by_cases e : i = k
      · subst e; exact h0
      · exact thread_ok hR f (k + 1) h i (by omega) (by omega)
    · rename_i c a h0
      exact absurd h (hR k c a h0)
theorem thread_zero {R : Nat → Option (Int × Int)} (hR : ∀ t c a, R t = some (c, a) → c ≠ 0) : ∀ (f k : Nat), (firstThread R f k).1 = 0 → firstThread R f k = (0, 0, 0)
  | 0, _, _ => rfl
  | f + 1, k, h => by
    rw [firstThread] at h ⊢
    split at h
    · exact thread_zero hR f (k + 1) h
    · rename_i c a h0
      exact absurd h (hR k c a h0)
theorem bad_ne {E : Nat → Int} : ∀ (f k : Nat) (c a : Int), firstBad E f k = some (c, a) → c ≠ 0
  | 0, k, c, a, h => by simp [firstBad] at h
  | f + 1, k, c, a, h => by
    rw [firstBad] at h
    split at h
    · exact bad_ne f (k + 1) c a h
    · rename_i h0
      simp only [Option.some.injEq, Prod.mk.injEq] at h
      rw [← h.1]; exact h0
theorem thr_ne {rg wd lk : Int} {L : Nat → Nat} {X : Nat → Nat → Nat → Int} : ∀ t c a, thr rg wd lk L X t = some (c, a) → c ≠ 0 := fun t c a e => by
  unfold thr at e
  split at e
  · simp at e; omega
  · exact bad_ne _ _ _ _ e

/-- What Check lets pass: the sizes, every order. -/
theorem chk_cok {n m : Nat} {L : Nat → Nat} {X : Nat → Nat → Nat → Int} {lk rg x y z : Int} (h : chk n L X m lk rg = (x, y, z)) (hx : x = 0) : y = 0 ∧ z = 0 ∧ 0 < n ∧ ∃ lk' rg' : Nat, lk = lk' ∧ rg = rg' ∧ COk n L X m lk' rg' := by
  subst hx
  unfold chk at h
  split at h
  · rename_i h1
    simp only [Prod.mk.injEq] at h
    exact absurd h.1 h1
  · rename_i h1
    have h1 : sizesE n m lk rg = 0 := by simpa using h1
    unfold sizesE at h1
    split at h1
    · cases h1
    · split at h1
      · cases h1
      · rename_i h2 h3
        have hz := thread_zero thr_ne n 0 (by rw [h])
        rw [h] at hz
        simp only [Prod.mk.injEq] at hz
        have hR : ∀ t, t < n → thr rg m lk L X t = none := fun t ht => thread_ok thr_ne n 0 (by rw [h]) t (Nat.zero_le _) (by omega)
        have hL : ∀ t, t < n → L t ≤ 400 ∧ firstBad (fun i => ordE rg m lk (L t) (X t i 0) (X t i 1) (X t i 2) (X t i 3)) (L t) 0 = none := fun t ht => by
          have := hR t ht
          unfold thr at this
          split at this
          · cases this
          · exact ⟨by omega, this⟩
        obtain ⟨lk', rfl⟩ := Int.eq_ofNat_of_zero_le (by omega : 0 ≤ lk)
        obtain ⟨rg', rfl⟩ := Int.eq_ofNat_of_zero_le (by omega : 0 ≤ rg)
        exact ⟨hz.2.1, hz.2.2, by omega, lk', rg', rfl, rfl, by omega, fun t ht => Nat.le_trans (hL t ht).1 (by decide), by omega, by omega, by omega, by omega, fun t i ht hi => bad_none (L t) 0 (hL t ht).2 i (Nat.zero_le _) (by omega)⟩
/-- What Check lets pass has no long thread. -/
theorem chk_len {n : Nat} {L : Nat → Nat} {X : Nat → Nat → Nat → Int} {m : Nat} {lk rg : Int} (h : chk n L X m lk rg = (0, 0, 0)) : ∀ t, t < n → L t ≤ 400 := fun t ht => by
  unfold chk at h
  split at h
  · simp_all
  · have := thread_ok thr_ne n 0 (by rw [h]) t (Nat.zero_le _) (by omega)
    unfold thr at this
    split at this
    · cases this
    · omega

end Go.Proofs.YtocfocjnnjdcgaaDoor
