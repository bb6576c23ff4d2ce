/-
  What the document's Check does.
-/
import Derived.Test.YtocfocjnnjdcgaaDoorCheckA
namespace Go.Proofs.YtocfocjnnjdcgaaDoor
open Go.RowKit

set_option maxHeartbeats 1000000 in
theorem rcheck_size (ca : Option Addr) (n cc : Nat) (wa : Option Addr) (m wc : Nat) (lk rg : Int) (h : (n : Int) < 1 ∨ 4 < (n : Int) ∨ 64 < (m : Int)) (w : World) :
    Calls Tryd.prog 10 #[prgV ca n cc wa m wc lk rg] w fun e w' => e = .returned (ints3 1 0 0) ∧ Below w.heap.size w w' := by
  rcases (by omega : (n : Int) < 1 ∨ ((1 ≤ (n : Int) ∧ 4 < (n : Int)) ∨ ((1 ≤ (n : Int) ∧ (n : Int) ≤ 4) ∧ 64 < (m : Int)))) with h1 | h1 | h1
  all_goals
    clear h
    go_enter Tryd.func10, Tryd.ntmps10
    go_wp2
    exact bodyPost_ret (v := ints3 1 0 0) (by simp [results, Tryd.results10, go_sem]) rfl
      ⟨rfl, ((Below.refl _ _).alloc (Nat.le_refl _) _).alloc (by simp) _⟩

set_option maxHeartbeats 1000000 in
theorem rcheck_range (ca : Option Addr) (n cc : Nat) (wa : Option Addr) (m wc : Nat) (lk rg : Int) (h1 : 1 ≤ (n : Int) ∧ (n : Int) ≤ 4) (h2 : (m : Int) ≤ 64) (h : lk < 0 ∨ 4 < lk ∨ rg < 1 ∨ 200 < rg) (w : World) :
    Calls Tryd.prog 10 #[prgV ca n cc wa m wc lk rg] w fun e w' => e = .returned (ints3 3 0 0) ∧ Below w.heap.size w w' := by
  rcases (by omega : lk < 0 ∨ (0 ≤ lk ∧ 4 < lk) ∨ ((0 ≤ lk ∧ lk ≤ 4) ∧ rg < 1) ∨ ((0 ≤ lk ∧ lk ≤ 4) ∧ 1 ≤ rg ∧ 200 < rg)) with h3 | h3 | h3 | h3
  all_goals
    clear h
    go_enter Tryd.func10, Tryd.ntmps10
    go_wp2
    exact bodyPost_ret (v := ints3 3 0 0) (by simp [results, Tryd.results10, go_sem]) rfl
      ⟨rfl, ((Below.refl _ _).alloc (Nat.le_refl _) _).alloc (by simp) _⟩

/-- The kinds by their number. -/
def kj (x y z : Int) (k : Nat) : Int := if k = 0 then x else if k = 1 then y else z

theorem ks_spec {op x y z : Int} (h : kd op = some (x, y, z)) :
     (ks op).size ≤ 3 ∧ (∀ k (hk : k < (ks op).size), (1 ≤ kj x y z k ∧ kj x y z k ≤ 5) ∧ ((ks op)[k].toNat : Int) = letter (kj x y z k)) ∧ ∀ k, (ks op).size ≤ k → k < 3 → kj x y z k = 0 := by
  rcases op_cases op with h1 | rfl | rfl | rfl | rfl | rfl | rfl | rfl | rfl | rfl | rfl | rfl | rfl | rfl | rfl | rfl | rfl | rfl | rfl
  · rw [kd_out h1] at h; cases h
  all_goals
    simp only [kd] at h
    simp at h
    obtain ⟨rfl, rfl, rfl⟩ := h
    refine ⟨by decide, ?_, ?_⟩
    · intro k hk
      have hk' : k < 3 := Nat.lt_of_lt_of_le hk (by decide)
      rcases (by omega : k = 0 ∨ k = 1 ∨ k = 2) with rfl | rfl | rfl <;> first | exact absurd hk (by decide) | exact ⟨⟨by decide, by decide⟩, rfl⟩
    · intro k hk hk3
      rcases (by omega : k = 0 ∨ k = 1 ∨ k = 2) with rfl | rfl | rfl <;> first | exact absurd hk (by decide) | decide

end Go.Proofs.YtocfocjnnjdcgaaDoor
