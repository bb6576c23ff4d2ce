/-
  No program at all, and which thread is too long, by the document.
-/
import Derived.Test.YtefnmbnakphhfadFRewI
namespace Go.Proofs.Ytefnmbnakphhfad
open Go.RowKit

theorem none_no (w : World) : Calls Try.prog 10 #[.agg #[nilV, nilV, .int .i64 0, .int .i64 0]] w fun e w' => e = .returned (.bool true) ∧ Below w.heap.size w w' := by
  go_enter Try.func10, Try.ntmps10
  go_wp2
  go_ret
  exact ⟨rfl, (Below.refl _ _).alloc (Nat.le_refl _) _⟩

set_option maxRecDepth 100000 in
set_option maxHeartbeats 1600000 in
/-- The first thread that is too long. -/
theorem long_any (w : World) (ca : Option Addr) (n cc : Nat) (wa : Option Addr) (m wc : Nat) (lk rg : Int) (A : Nat → Option Addr) (L C : Nat → Nat) (X : Nat → Nat → Nat → Int) (hp : PIn w ca n A L C X) (hn : n ≤ 4) :
    Calls Try.prog 26 #[prgV ca n cc wa m wc lk rg] w fun e w' => ∃ r : Int, e = .returned (.int .i64 r) ∧ ((∃ t : Nat, r = (t : Int) ∧ t < n ∧ 400 < L t ∧ ∀ i, i < t → L i ≤ 400) ∨ (r = -1 ∧ ∀ i, i < n → L i ≤ 400)) ∧ Below w.heap.size w w' := by
  have HP := Hid.out (p := Hid _) hp
  obtain ⟨W, hW⟩ : ∃ V, w.alloc (.cells #[.slice ca n cc, .slice wa m wc, .int .i64 lk, .int .i64 rg] 25) = V := ⟨_, rfl⟩
  have hbW : Below w.heap.size w W := by rw [← hW]; exact (Below.refl _ _).alloc (Nat.le_refl _) _
  have p0 : W.cell? ⟨w.heap.size, 0, none⟩ = some (.slice ca n cc) := by rw [← hW]; exact box_cell (heap_alloc_new _ _) rfl
  have HW := Hid.out (p := Hid _) hW
  have HBW := Hid.out (p := Hid _) hbW
  clear hp hW hbW
  go_enter Try.func26, Try.ntmps26
  go_wp2
  rw [HW.out]
  go_loop [3] (fun i => ∃ k : Nat, k ≤ n ∧ i = .int .i64 k ∧ Hid (∀ i, i < k → L i ≤ 400)) (fun i => n - (intOf i).toNat)
  case atStart => exact ⟨0, Nat.zero_le _, rfl, fun i h => absurd h (by omega)⟩
  case round =>
    obtain ⟨k, hk, rfl, HK⟩ := hrel
    by_cases hlt : k < n
    · obtain ⟨cb, co, rfl, hcell⟩ := (HP.out.below HBW.out).code k hlt
      have hl0 := HP.out.len k hlt
      obtain ⟨l, hl⟩ : ∃ l, L k = l := ⟨_, rfl⟩
      rw [hl] at hcell hl0
      have HLK := Hid.out (p := Hid _) hl
      clear hl
      by_cases hl4 : 400 < l
      · have hl4' : (400 : Int) < l := by omega
        go_wp2
        go_ret
        exact ⟨k, rfl, .inl ⟨k, rfl, hlt, by rw [HLK.out]; exact hl4, HK.out⟩, HBW.out⟩
      · have hl4' : ¬ (400 : Int) < l := by omega
        go_wp2
        go_round
        case rel => exact ⟨k + 1, by omega, by go_num, fun i hi => by
          by_cases e : i = k
          · rw [e, HLK.out]; omega
          · exact HK.out i (by omega)⟩
        case measure => simp [intOf]; omega
    · have hkn : k = n := by omega
      subst hkn
      go_wp2
      go_ret
      exact ⟨-1, rfl, .inr ⟨rfl, HK.out⟩, HBW.out⟩

end Go.Proofs.Ytefnmbnakphhfad
