/-
  A copy of a list of numbers, by the program.
-/
import Derived.Test.YtefnmbnakphhfadAppB
import Derived.WalkKit
import Derived.WalkSpells
import Derived.WalkLawsBesides
import Derived.Lib.SmallJoins
namespace Go.Proofs.Ytefnmbnakphhfad
open Go.RowKit

attribute [local go_sem ↓] appS_eq
set_option maxRecDepth 100000 in
set_option maxHeartbeats 1600000 in
theorem clone_some (w : World) (sa : Addr) (l : List Int) (c : Nat) (h : SIs w (some sa) l) (hl : l.length * 8 ≤ 140737488355328) :
    Calls Try.prog 30 #[.slice (some sa) l.length c] w fun e w' => ∃ g cap, e = .returned (.slice (some ⟨g, 0, none⟩) l.length cap) ∧ w.heap.size ≤ g ∧ w'.ownsRow w.heap.size 3 1 (.slice (some ⟨g, 0, none⟩) l.length cap) l.length (intsV l) ∧ Below w.heap.size w w' := by
  obtain ⟨g, cap, w3, r1, r2, r3, r4, _⟩ := app_src w w.heap.size (Nat.le_refl _) (some sa) l c h hl
  have HF : Hid (Below w.heap.size w w3) := ((Below.refl _ _).alloc (Nat.le_refl _) _).grown r3 (by simp) (fun k hk => by simp at hk; omega)
  have hne := fun W => Lib.run_eql_slice_nil (P := Try.prog) W 23 3 (some sa) l.length c 0 0 Try.underlying23
  obtain ⟨m, hm⟩ : ∃ m, l.length = m := ⟨_, rfl⟩
  rw [hm] at r1 r2 hne ⊢
  clear h hl r3 hm
  go_enter Try.func30, Try.ntmps30
  go_wp2
  go_ret
  exact ⟨g, cap, rfl, r4, r2, HF.out⟩
set_option maxRecDepth 100000 in
set_option maxHeartbeats 1600000 in
theorem clone_nil (w : World) : Calls Try.prog 30 #[nilV] w fun e w' => e = .returned nilV ∧ w = w' := by
  have hne := fun W => Lib.run_eql_slice_nil (P := Try.prog) W 23 3 none 0 0 0 0 Try.underlying23
  go_enter Try.func30, Try.ntmps30
  go_wp2
  go_ret
  exact ⟨rfl, rfl⟩
/-- A copy of a list. -/
theorem clone_any (w : World) (sa : Option Addr) (l : List Int) (c : Nat) (h : SIs w sa l) (hnil : sa = none → l = [] ∧ c = 0) (hl : l.length * 8 ≤ 140737488355328) :
    Calls Try.prog 30 #[.slice sa l.length c] w fun e w' => ∃ a cap, e = .returned (.slice a l.length cap) ∧ w'.ownsRow w.heap.size 3 1 (.slice a l.length cap) l.length (intsV l) ∧ Below w.heap.size w w' := by
  cases sa with
  | none =>
    obtain ⟨rfl, rfl⟩ := hnil rfl
    refine (clone_nil w).mono fun e w' h => ⟨none, 0, h.1, World.ownsRow_nil _ _ _ _, ?_⟩
    rw [← h.2]; exact Below.refl _ _
  | some a => exact (clone_some w a l c h hl).mono fun e w' ⟨g, cap, h1, _, h3, h4⟩ => ⟨_, cap, h1, h3, h4⟩

end Go.Proofs.Ytefnmbnakphhfad
