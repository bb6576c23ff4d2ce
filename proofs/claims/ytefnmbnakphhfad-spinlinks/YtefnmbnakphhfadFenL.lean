/-
  Orders anew, as plain functions: what each becomes, where it lies, that it may be; where something may wait.
-/
import Derived.Test.YtefnmbnakphhfadSOk
import Derived.Test.YtefnmbnakphhfadRunP
import Derived.Test.YtefnmbnakphhfadInProg
import Derived.Test.YtefnmbnakphhfadAppB
import Derived.Deep.QuietTactic
import Derived.BigQuiet
import Derived.BigRegion
import Derived.StillTailTactics
import Derived.Test.YtefnmbnakphhfadDSt2
import Derived.Test.YtefnmbnakphhfadFenA
namespace Go.Proofs.Ytefnmbnakphhfad
open Go.RowKit

/-- The new orders as numbers. -/
def lenR (b : Nat → Nat → List I4) (L : Nat → Nat) : Nat → Nat := fun t => (codeR (b t) (L t)).length
def numR (b : Nat → Nat → List I4) (L : Nat → Nat) : Nat → Nat → Nat → Int := fun t i q => nth4 ((codeR (b t) (L t)).getD i fenceI) q
/-- New orders may be, where the old ones may. -/
theorem led_ok {rg m lk sz : Nat} {pl : Nat → Nat} {x : I4} (h : ordE rg m lk sz x.1 x.2.1 x.2.2.1 x.2.2.2 = 0) {sz' : Nat} (hp : ∀ a, a ≤ sz → pl a ≤ sz') : ordE rg m lk sz' (ledO pl x).1 (ledO pl x).2.1 (ledO pl x).2.2.1 (ledO pl x).2.2.2 = 0 := by
  obtain ⟨op, a, b, c⟩ := x
  show ordE rg m lk sz' op (if op = 14 then _ else _) (if op = 15 then _ else _) c = 0
  simp only at h
  have ho := ok_op h
  by_cases h14 : op = 14
  · subst h14
    have h1 := ok_three (op := 14) rfl h
    have h2 := okN_place h1.1
    have h3 := hp a.toNat (by omega)
    unfold ordE
    simp only [kd, Int.reduceEq, ↓reduceIte]
    have h4 : okN rg m lk sz' 4 (pl a.toNat : Int) = true := by
      unfold okN lim
      simp
      omega
    rw [h4]
    have h5 : okN rg m lk sz' 0 b = true := h1.2.1
    have h6 : okN rg m lk sz' 0 c = true := h1.2.2
    rw [h5, h6]
    rfl
  · by_cases h15 : op = 15
    · subst h15
      have h1 := ok_three (op := 15) rfl h
      have h2 := okN_place h1.2.1
      have h3 := hp b.toNat (by omega)
      unfold ordE
      simp only [kd, Int.reduceEq, ↓reduceIte]
      have h4 : okN rg m lk sz' 4 (pl b.toNat : Int) = true := by
        unfold okN lim
        simp
        omega
      rw [h4]
      have h5 : okN rg m lk sz' 1 a = true := h1.1
      have h6 : okN rg m lk sz' 0 c = true := h1.2.2
      rw [h5, h6]
      rfl
    · rw [if_neg h14, if_neg h15]
      rcases op_cases op with e | rfl | rfl | rfl | rfl | rfl | rfl | rfl | rfl | rfl | rfl | rfl | rfl | rfl | rfl | rfl | rfl | rfl | rfl
      · omega
      all_goals first
        | exact absurd rfl h14
        | exact absurd rfl h15
        | exact h
/-- The first thread that is too long. -/
def longR (L : Nat → Nat) (t : Nat) : Option (Int × Int) := if 400 < L t then some (1, 0) else none
theorem bad_all {E : Nat → Int} : ∀ (f k : Nat), (∀ i, k ≤ i → i < k + f → E i = 0) → firstBad E f k = none
  | 0, _, _ => rfl
  | f + 1, k, h => by
    rw [firstBad, if_pos (h k (by omega) (by omega))]
    exact bad_all f (k + 1) (fun i h1 h2 => h i (by omega) (by omega))
theorem first_congr {R S : Nat → Option (Int × Int)} : ∀ (f k : Nat), (∀ i, k ≤ i → i < k + f → R i = S i) → firstThread R f k = firstThread S f k
  | 0, _, _ => rfl
  | f + 1, k, h => by
    rw [firstThread, firstThread, h k (by omega) (by omega)]
    rw [first_congr f (k + 1) (fun i h1 h2 => h i (by omega) (by omega))]
theorem long_cases {L : Nat → Nat} : ∀ (f k : Nat), (firstThread (longR L) f k = (0, 0, 0) ∧ ∀ i, k ≤ i → i < k + f → L i ≤ 400) ∨ ∃ t, k ≤ t ∧ t < k + f ∧ firstThread (longR L) f k = (1, (t : Int), 0) ∧ 400 < L t ∧ ∀ i, k ≤ i → i < t → L i ≤ 400
  | 0, k => Or.inl ⟨rfl, fun i h1 h2 => absurd h2 (by omega)⟩
  | f + 1, k => by
    by_cases e : 400 < L k
    · refine Or.inr ⟨k, by omega, by omega, ?_, e, fun i h1 h2 => absurd h2 (by omega)⟩
      rw [firstThread]
      unfold longR
      rw [if_pos e]
    · have hk : longR L k = none := by unfold longR; rw [if_neg e]
      rw [firstThread, hk]
      simp only
      rcases long_cases f (k + 1) with ⟨h1, h2⟩ | ⟨t, h1, h2, h3, h4, h5⟩
      · refine Or.inl ⟨h1, fun i h3 h4 => ?_⟩
        by_cases e2 : i = k
        · rw [e2]; omega
        · exact h2 i (by omega) (by omega)
      · refine Or.inr ⟨t, by omega, by omega, h3, h4, fun i h6 h7 => ?_⟩
        by_cases e2 : i = k
        · rw [e2]; omega
        · exact h5 i (by omega) h7

end Go.Proofs.Ytefnmbnakphhfad
