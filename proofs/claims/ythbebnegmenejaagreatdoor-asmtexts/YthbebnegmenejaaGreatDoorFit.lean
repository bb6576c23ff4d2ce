/-
  What is read from a text fits; what Parse says of a text that tells a program.
-/
import Derived.Test.YthbebnegmenejaaGreatDoorTextP
namespace Go.Proofs.YthbebnegmenejaaGreatDoor
open Go.RowKit

theorem numB_fit {l : List UInt8} {v : Int} (h : numB l = some v) : I64 v := by
  unfold numB at h
  split at h
  · split at h
    · split at h
      · simp only [Option.some.injEq] at h; exact ⟨by omega, by omega⟩
      · cases h
    · split at h
      · simp only [Option.some.injEq] at h; exact ⟨by omega, by omega⟩
      · cases h
  · cases h
theorem numsL_fit : ∀ (a : List (List UInt8)) (vs : List Int), numsL a = some vs → ∀ v ∈ vs, I64 v
  | [], vs, h => by simp [numsL] at h; subst h; intro v hv; cases hv
  | x :: r, vs, h => by
    rw [numsL] at h
    split at h
    · rename_i v us h1 h2
      simp only [Option.some.injEq] at h
      subst h
      intro u hu
      rcases List.mem_cons.1 hu with rfl | hu
      · exact numB_fit h1
      · exact numsL_fit r us h2 u hu
    · cases h
theorem getD_fit {vs : List Int} (h : ∀ v ∈ vs, I64 v) (i : Nat) : I64 (vs.getD i 0) := by
  rcases Nat.lt_or_ge i vs.length with h1 | h1
  · simp only [List.getD, List.getElem?_eq_getElem h1, Option.getD_some]
    exact h _ (List.getElem_mem h1)
  · simp only [List.getD, List.getElem?_eq_none h1, Option.getD_none]
    exact ⟨by omega, by omega⟩

/-- A program whose numbers fit. -/
structure FitS (st : St) : Prop where
  w : ∀ v ∈ st.words, I64 v
  x : ∀ th ∈ st.ths, ∀ y ∈ th, I64 y.1 ∧ I64 y.2.1 ∧ I64 y.2.2.1 ∧ I64 y.2.2.2
theorem FitS.step {k : Nat} {l : List UInt8} {st st' : St} (h : FitS st) (hs : stepL k l st = some st') : FitS st' := by
  unfold stepL at hs
  split at hs
  · cases hs
  · rename_i vs hn
    have hv := numsL_fit _ _ hn
    split at hs
    · split at hs
      · simp only [Option.some.injEq] at hs; subst hs; exact ⟨hv, h.x⟩
      · cases hs
    · split at hs
      · split at hs
        · simp only [Option.some.injEq] at hs; subst hs; exact ⟨h.w, h.x⟩
        · cases hs
      · split at hs
        · split at hs
          · simp only [Option.some.injEq] at hs; subst hs; exact ⟨h.w, h.x⟩
          · cases hs
        · split at hs
          · simp only [Option.some.injEq] at hs
            subst hs
            refine ⟨h.w, fun th ht => ?_⟩
            rcases List.mem_append.1 ht with ht | ht
            · exact h.x th ht
            · simp at ht; subst ht; intro y hy; cases hy
          · split at hs
            · cases hs
            · rename_i hne
              split at hs
              · cases hs
              · rename_i op ho
                split at hs
                · simp only [Option.some.injEq] at hs
                  subst hs
                  refine ⟨h.w, fun th ht => ?_⟩
                  rcases List.mem_or_eq_of_mem_set ht with ht | rfl
                  · exact h.x th ht
                  · intro y hy
                    rcases List.mem_append.1 hy with hy | hy
                    · have hlt : st.ths.length - 1 < st.ths.length := by
                        have : st.ths.length ≠ 0 := fun e => hne (List.eq_nil_of_length_eq_zero e)
                        omega
                      simp only [List.getD, List.getElem?_eq_getElem hlt, Option.getD_some] at hy
                      exact h.x _ (List.getElem_mem hlt) y hy
                    · simp only [List.mem_singleton] at hy
                      subst hy
                      have := opOf_some ho
                      exact ⟨⟨by show _ ≤ (op : Int); omega, by show (op : Int) ≤ _; omega⟩, getD_fit hv 0, getD_fit hv 1, getD_fit hv 2⟩
                · cases hs
theorem FitS.run : ∀ (ls : List (List UInt8)) (k : Nat) (st st' : St), FitS st → runL k ls st = .inr st' → FitS st'
  | [], _, st, st', h, e => by simp only [runL, Sum.inr.injEq] at e; subst e; exact h
  | l :: r, k, st, st', h, e => by
    rw [runL] at e
    split at e
    · cases e
    · rename_i s1 h1
      exact FitS.run r (k + 1) s1 st' (h.step h1) e
theorem FitS.read {l : List UInt8} {st : St} (h : readL l = .inr st) : FitS st := by
  unfold readL at h
  split at h
  · cases h
  · rename_i s1 h1
    split at h
    · cases h
    · simp only [Sum.inr.injEq] at h
      subst h
      exact FitS.run _ 0 st0 s1 ⟨fun v hv => (by cases hv), fun th ht => (by cases ht)⟩ h1
theorem FitS.of_x {st : St} (h : FitS st) (t i q : Nat) (ht : t < st.ths.length) (hi : i < lOf st.ths t) : I64 (xOf st.ths t i q) := by
  unfold lOf at hi
  unfold xOf
  have e1 : st.ths.getD t [] = st.ths[t] := by simp [List.getD, List.getElem?_eq_getElem ht]
  rw [e1] at hi ⊢
  have e2 : (st.ths[t]).getD i (0, 0, 0, 0) = (st.ths[t])[i] := by simp [List.getD, List.getElem?_eq_getElem hi]
  rw [e2]
  have := h.x _ (List.getElem_mem ht) _ (List.getElem_mem hi)
  unfold ord4
  split
  · exact this.1
  · split
    · exact this.2.1
    · split
      · exact this.2.2.1
      · exact this.2.2.2

theorem parse_ok {l : List UInt8} {st : St} {x y z : Int} (h : parseL l = (st, (x, y, z))) (hx : x = 0) : readL l = .inr st ∧ y = 0 ∧ z = 0 ∧ (chkS st).1 = 0 := by
  unfold parseL at h
  split at h
  · simp at h; omega
  · split at h
    · simp at h; omega
    · rename_i st1 h1
      split at h
      · rename_i h2
        simp only [Prod.mk.injEq] at h
        obtain ⟨rfl, _, rfl, rfl⟩ := h
        exact ⟨h1, rfl, rfl, h2⟩
      · rename_i h2
        simp only [Prod.mk.injEq] at h
        rw [h.2] at h2
        exact absurd hx h2
theorem parse_no {l : List UInt8} {st : St} {x y z : Int} (h : parseL l = (st, (x, y, z))) (hx : x ≠ 0) : st = st0 := by
  unfold parseL at h
  split at h
  · simp only [Prod.mk.injEq] at h; exact h.1.symm
  · split at h
    · simp only [Prod.mk.injEq] at h; exact h.1.symm
    · split at h
      · simp only [Prod.mk.injEq] at h
        exact absurd h.2.1.symm hx
      · simp only [Prod.mk.injEq] at h; exact h.1.symm

/-- The text that is read first. -/
def firstText : List UInt8 := [119, 111, 114, 100, 115, 32, 55, 10, 108, 111, 99, 107, 115, 32, 48, 10, 114, 101, 103, 115, 32, 49, 10, 116, 104, 114, 101, 97, 100, 10, 108, 111, 97, 100, 32, 48, 32, 48, 10, 112, 114, 105, 110, 116, 32, 48, 10]
def firstSt : St := ⟨[7], 0, 1, [[(8, 0, 0, 0), (16, 0, 0, 0)]]⟩
theorem first_read : parseL firstText = (firstSt, (0, 0, 0)) := by kernel_rfl

end Go.Proofs.YthbebnegmenejaaGreatDoor
