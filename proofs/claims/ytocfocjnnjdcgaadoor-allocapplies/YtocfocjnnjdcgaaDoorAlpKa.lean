/-
  The words of spilt registers, by the document.
-/
import Derived.Test.YtocfocjnnjdcgaaDoorAlpH
import Derived.Test.YtocfocjnnjdcgaaDoorAlpJ
import Derived.Test.YtocfocjnnjdcgaaDoorOPutF
import Derived.Test.YtocfocjnnjdcgaaDoorFRew
import Derived.Test.YtocfocjnnjdcgaaDoorOwnS
import Derived.Deep.LoopGhost
namespace Go.Proofs.YtocfocjnnjdcgaaDoor
open Go.RowKit

/-- The words of a thread's registers, the first r of them filled. -/
def wsL (wd : Nat → Nat) (k : List Int) (rg r : Nat) : List Int := (List.range rg).map fun i => if i < r ∧ k.getD i 0 < 0 then ((wd i : Nat) : Int) else 0
theorem ws_len (wd : Nat → Nat) (k : List Int) (rg r : Nat) : (wsL wd k rg r).length = rg := by simp [wsL]
theorem ws_get {wd : Nat → Nat} {k : List Int} {rg r i : Nat} (hi : i < rg) : (wsL wd k rg r)[i]? = some (if i < r ∧ k.getD i 0 < 0 then ((wd i : Nat) : Int) else 0) := by
  unfold wsL
  rw [List.getElem?_map, List.getElem?_range hi]
  rfl
theorem ws_at {wd : Nat → Nat} {k : List Int} {rg i : Nat} (hi : i < rg) (h : k.getD i 0 < 0) : (wsL wd k rg rg).getD i 0 = ((wd i : Nat) : Int) := by
  rw [List.getD_eq_getElem?_getD, ws_get hi, if_pos ⟨hi, h⟩]
  rfl
theorem ws_skip {wd : Nat → Nat} {k : List Int} {rg r : Nat} (h : ¬ k.getD r 0 < 0) : wsL wd k rg (r + 1) = wsL wd k rg r := by
  unfold wsL
  apply List.map_congr_left
  intro i _
  by_cases e : i = r
  · subst e
    rw [if_neg (fun x => h x.2), if_neg (fun x => h x.2)]
  · have e2 : (i < r + 1 ∧ k.getD i 0 < 0) ↔ (i < r ∧ k.getD i 0 < 0) := by
      constructor
      · rintro ⟨h1, h2⟩; exact ⟨by omega, h2⟩
      · rintro ⟨h1, h2⟩; exact ⟨by omega, h2⟩
    simp only [e2]
theorem ws_put {wd : Nat → Nat} {k : List Int} {rg r : Nat} (hr : r < rg) (h : k.getD r 0 < 0) : (wsL wd k rg r).set r ((wd r : Nat) : Int) = wsL wd k rg (r + 1) := by
  apply List.ext_getElem?
  intro i
  by_cases hi : i < rg
  · rw [ws_get hi]
    by_cases e : i = r
    · subst e
      rw [List.getElem?_set_self (by rw [ws_len]; exact hi), if_pos ⟨by omega, h⟩]
    · rw [List.getElem?_set_ne (fun x => e x.symm), ws_get hi]
      have e2 : (i < r + 1 ∧ k.getD i 0 < 0) ↔ (i < r ∧ k.getD i 0 < 0) := by
        constructor
        · rintro ⟨h1, h2⟩; exact ⟨by omega, h2⟩
        · rintro ⟨h1, h2⟩; exact ⟨by omega, h2⟩
      simp only [e2]
  · rw [List.getElem?_eq_none (by rw [List.length_set, ws_len]; omega), List.getElem?_eq_none (by rw [ws_len]; omega)]
theorem ws_start (w : World) (wd : Nat → Nat) (k : List Int) (rg : Nat) (hl : rg ≤ 1000) : ∃ w1, (Instr.makeSlice 23 (.int .i64 (rg : Int)) (.int .i64 (rg : Int))).run Tryd.prog w = .ok (.slice (some ⟨w.heap.size, 0, none⟩) rg rg) w1 ∧ w1.ownsRow w.heap.size 3 1 (.slice (some ⟨w.heap.size, 0, none⟩) rg rg) rg (intsV (wsL wd k rg 0)) ∧ Below w.heap.size w w1 := by
  obtain ⟨i, hi, hz0, hz1, hz2⟩ := info_is infoI
  obtain ⟨w1, r1, r2, r3⟩ := run_makeSlice_full (P := Tryd.prog) w w.heap.size 23 3 i (.int .i64 0) 1 Tryd.underlying23 hi hz0 hz1 .i64 .i64 rg (by omega) (by rw [hz2]; omega) (by unfold maxLen; omega) (Nat.le_refl _)
  have hlow : Below w.heap.size w w1 := (Below.refl _ _).grown r3 (Nat.le_refl _) (fun k hk => by cases hk)
  refine ⟨w1, by simpa using r1, ?_, hlow⟩
  rw [Nat.mul_one] at r2
  have e : (Value.int .i64 0).cells = #[Value.int .i64 0] := rfl
  have e2 : wsL wd k rg 0 = List.replicate rg 0 := by
    apply List.ext_getElem?
    intro i
    by_cases h : i < rg
    · rw [ws_get h, if_neg (by omega), List.getElem?_replicate, if_pos h]
    · rw [List.getElem?_eq_none (by rw [ws_len]; omega), List.getElem?_eq_none (by rw [List.length_replicate]; omega)]
  rw [e2]
  rw [e, made_ints6] at r2
  exact r2
/-- What becomes of an order is it, a load or a store. -/
theorem lo_op {k : List Int} {wd : Nat → Nat} {y x : I4} : ∀ {i : Nat}, x ∈ loS k wd y i → x.1 = 8
  | 0, h => by cases h
  | i + 1, h => by
    rw [loS, List.mem_append] at h
    rcases h with h | h
    · exact lo_op h
    · unfold feT at h
      split at h
      · simp only [List.mem_singleton] at h; subst h; rfl
      · cases h
theorem pnB_op {k : List Int} {wd : Nat → Nat} {op a b c : Int} (ho : 1 ≤ op ∧ op ≤ 18) {x : I4} (h : x ∈ pnB k wd (op, a, b, c)) : x.1 = 8 ∨ x.1 = 9 ∨ x.1 = op := by
  rw [pnB, List.mem_append, List.mem_append] at h
  rcases h with (h | h) | h
  · exact Or.inl (lo_op h)
  · simp only [List.mem_singleton] at h
    subst h
    exact Or.inr (Or.inr (nwC_all k op a b c ho).2)
  · unfold keS at h
    split at h
    · cases h
    · unfold keT at h
      split at h
      · simp only [List.mem_singleton] at h; subst h; exact Or.inr (Or.inl rfl)
      · cases h

end Go.Proofs.YtocfocjnnjdcgaaDoor
