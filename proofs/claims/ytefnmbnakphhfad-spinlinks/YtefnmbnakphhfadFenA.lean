/-
  Orders anew, as plain functions: what each becomes, where it lies.
-/
import Derived.Test.YtefnmbnakphhfadBuild4
namespace Go.Proofs.Ytefnmbnakphhfad
open Go.RowKit

/-- A thread's order. -/
def ordAt (X : Nat → Nat → Nat → Int) (t i : Nat) : I4 := (X t i 0, X t i 1, X t i 2, X t i 3)
def nth4 (x : I4) (q : Nat) : Int := if q = 0 then x.1 else if q = 1 then x.2.1 else if q = 2 then x.2.2.1 else x.2.2.2
def fenceI : I4 := (12, 0, 0, 0)
/-- An order with its places led on. -/
def ledO (pl : Nat → Nat) (x : I4) : I4 := (x.1, (if x.1 = 14 then (pl x.2.1.toNat : Int) else x.2.1), (if x.1 = 15 then (pl x.2.2.1.toNat : Int) else x.2.2.1), x.2.2.2)
/-- Where what each order became begins. -/
def plR (b : Nat → List I4) : Nat → Nat
  | 0 => 0
  | i + 1 => plR b i + (b i).length
def rawR (b : Nat → List I4) : Nat → List I4
  | 0 => []
  | i + 1 => rawR b i ++ b i
/-- A thread's new orders. -/
def codeR (b : Nat → List I4) (L : Nat) : List I4 := (rawR b L).map (ledO (plR b))
section
variable {b : Nat → List I4}
theorem raw_len : ∀ i, (rawR b i).length = plR b i
  | 0 => rfl
  | i + 1 => by rw [rawR, List.length_append, raw_len i, plR]
theorem code_len (L : Nat) : (codeR b L).length = plR b L := by rw [codeR, List.length_map, raw_len]
theorem pl_mono {i j : Nat} (h : i ≤ j) : plR b i ≤ plR b j := by
  induction h with
  | refl => exact Nat.le_refl _
  | step _ ih => exact Nat.le_trans ih (Nat.le_add_right _ _)
theorem raw_at {i k : Nat} (hk : k < (b i).length) : ∀ {L : Nat}, i < L → (rawR b L)[plR b i + k]? = (b i)[k]?
  | 0, h => absurd h (by omega)
  | L + 1, h => by
    rw [rawR]
    by_cases e : i = L
    · subst e
      rw [List.getElem?_append_right (by rw [raw_len]; omega), raw_len]
      congr 1
      omega
    · have h1 : plR b (i + 1) ≤ plR b L := pl_mono (by omega)
      rw [plR] at h1
      rw [List.getElem?_append_left (by rw [raw_len]; omega)]
      exact raw_at hk (by omega)
theorem raw_find : ∀ {L j : Nat}, j < plR b L → ∃ i k, i < L ∧ k < (b i).length ∧ j = plR b i + k
  | 0, j, h => absurd h (by simp [plR])
  | L + 1, j, h => by
    rw [plR] at h
    by_cases e : j < plR b L
    · obtain ⟨i, k, h1, h2, h3⟩ := raw_find e
      exact ⟨i, k, by omega, h2, h3⟩
    · exact ⟨L, j - plR b L, by omega, by omega, by omega⟩
theorem code_at {i k L : Nat} (hk : k < (b i).length) (hi : i < L) (d : I4) : (codeR b L).getD (plR b i + k) d = ledO (plR b) ((b i).getD k d) := by
  have h := raw_at hk hi
  rw [List.getD_eq_getElem?_getD, codeR, List.getElem?_map, h, List.getElem?_eq_getElem hk]
  simp [List.getD, hk]
end

end Go.Proofs.Ytefnmbnakphhfad
