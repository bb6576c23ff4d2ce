/-
  Orders anew, as plain functions: their numbers, that they may be.
  Constants are found just once: what is known of the orders that were made is what was known of those that they came of.
  Constants are found just once: a second time nothing changes.
  The least solution is there; what each order becomes by it, case by case.
-/
import Derived.Test.YtkailbdjilkneaaDoorInProg
import Derived.Test.YtkailbdjilkneaaDoorCOkP
import Derived.Test.YtkailbdjilkneaaDoorOrder
import Derived.Test.YtkailbdjilkneaaDoorOptW
namespace Go.Proofs.YtkailbdjilkneaaDoor
section
open Go.RowKit

/-- The new orders as numbers. -/
def lenR (b : Nat → Nat → List I4) (L : Nat → Nat) : Nat → Nat := fun t => (codeR (b t) (L t)).length
def numR (b : Nat → Nat → List I4) (L : Nat → Nat) : Nat → Nat → Nat → Int := fun t i q => nth4 ((codeR (b t) (L t)).getD i fenceI) q
def bLess (D : Nat → Nat → Bool) (X : Nat → Nat → Nat → Int) : Nat → Nat → List I4 := fun t i => bDrop (D t i) (ordAt X t i)
theorem bLess_in (D : Nat → Nat → Bool) (X : Nat → Nat → Nat → Int) (t i : Nat) (x : I4) (h : x ∈ bLess D X t i) : x = ordAt X t i ∨ x = fenceI := by
  unfold bLess bDrop at h
  split at h
  · cases h
  · exact Or.inl (by simpa using h)
theorem less_len (D : Nat → Nat → Bool) (X : Nat → Nat → Nat → Int) (L : Nat → Nat) (t : Nat) : lenR (bLess D X) L t ≤ L t := by
  unfold lenR
  rw [code_len]
  have : ∀ i, plR (bLess D X t) i ≤ i := fun i => by
    induction i with
    | zero => exact Nat.le_refl _
    | succ i ih =>
      rw [plR]
      have : (bLess D X t i).length ≤ 1 := by unfold bLess bDrop; split <;> simp
      omega
  exact this _
section
variable {n m lk rg : Nat} {L : Nat → Nat} {X : Nat → Nat → Nat → Int} {b : Nat → Nat → List I4}
theorem one_len (hb : ∀ t i, (b t i).length ≤ 1) (t : Nat) : lenR b L t ≤ L t := by
  unfold lenR
  rw [code_len]
  have : ∀ i, plR (b t) i ≤ i := fun i => by
    induction i with
    | zero => exact Nat.le_refl _
    | succ i ih =>
      rw [plR]
      have := hb t i
      omega
  exact this _
end
end

section
open Go.RowKit

/-- What an order becomes, where it goes. -/
theorem con_cases {X : Nat → Nat → Int} {i : Nat} {e : Nat → Vl} (hg : e 0 ≠ .no) :
    (X i 0 = 15 ∧ e (X i 1).toNat = .num 0 ∧ bConX X i e = [(14, X i 2, 0, 0)]) ∨
    (X i 0 = 15 ∧ (∃ n, e (X i 1).toNat = .num n ∧ n ≠ 0) ∧ bConX X i e = []) ∨
    ((2 ≤ X i 0 ∧ X i 0 ≤ 7) ∧ ∃ n, mkV (X i 0) (X i 2) (X i 3) e = .num n ∧ bConX X i e = [(1, X i 1, n, 0)]) ∨
    (bConX X i e = [(X i 0, X i 1, X i 2, X i 3)] ∧ (X i 0 = 15 → ∀ n, e (X i 1).toNat ≠ .num n) ∧ ((2 ≤ X i 0 ∧ X i 0 ≤ 7) → ∀ n, mkV (X i 0) (X i 2) (X i 3) e ≠ .num n)) := by
  unfold bConX
  rw [if_neg hg]
  by_cases h15 : X i 0 = 15
  · rw [if_pos h15]
    cases hv : e (X i 1).toNat with
    | num n =>
      by_cases hn : n = 0
      · subst hn
        exact Or.inl ⟨h15, rfl, by simp⟩
      · exact Or.inr (Or.inl ⟨h15, ⟨n, rfl, hn⟩, by simp [hn]⟩)
    | no => exact Or.inr (Or.inr (Or.inr ⟨rfl, fun _ n h => (by cases h), fun h => by omega⟩))
    | any => exact Or.inr (Or.inr (Or.inr ⟨rfl, fun _ n h => (by cases h), fun h => by omega⟩))
  · rw [if_neg h15]
    by_cases h27 : 2 ≤ X i 0 ∧ X i 0 ≤ 7
    · rw [if_pos (by omega)]
      cases hv : mkV (X i 0) (X i 2) (X i 3) e with
      | num n => exact Or.inr (Or.inr (Or.inl ⟨h27, n, rfl, rfl⟩))
      | no => exact Or.inr (Or.inr (Or.inr ⟨rfl, fun h => absurd h h15, fun _ n h => (by cases h)⟩))
      | any => exact Or.inr (Or.inr (Or.inr ⟨rfl, fun h => absurd h h15, fun _ n h => (by cases h)⟩))
    · rw [if_neg (by omega)]
      exact Or.inr (Or.inr (Or.inr ⟨rfl, fun h => absurd h h15, fun h => absurd h h27⟩))
section
variable {X : Nat → Nat → Int} {l rg m lk : Nat} {E : Nat → Nat → Vl} {b : Nat → List I4}
end
section
variable {X : Nat → Nat → Int} {l rg m lk : Nat} {E E1 : Nat → Nat → Vl} {b : Nat → List I4}
open Classical in
end
end

section
open Go.RowKit

theorem mk_const {rg m lk sz a n : Int} (h : 0 ≤ a ∧ a < rg) : ordE rg m lk sz 1 a n 0 = 0 := by
  unfold ordE
  simp only [kd, ↓reduceIte]
  have h1 : okN rg m lk sz 1 a = true := by unfold okN lim; simp [h.1, h.2]
  have h2 : okN rg m lk sz 5 n = true := rfl
  have h3 : okN rg m lk sz 0 0 = true := rfl
  rw [h1, h2, h3]
  rfl
theorem mk_jump {rg m lk sz a : Int} (h : 0 ≤ a ∧ a ≤ sz) : ordE rg m lk sz 14 a 0 0 = 0 := by
  unfold ordE
  simp only [kd, Int.reduceEq, ↓reduceIte]
  have h1 : okN rg m lk sz 4 a = true := by unfold okN lim; simp; omega
  have h3 : okN rg m lk sz 0 0 = true := rfl
  rw [h1, h3]
  rfl
/-- What an order becomes may be. -/
theorem bCon_ok {rg m lk sz : Nat} {X : Nat → Nat → Int} {i : Nat} {e : Nat → Vl} (ho : ordE rg m lk sz (X i 0) (X i 1) (X i 2) (X i 3) = 0) : ∀ x, x ∈ bConX X i e → ordE rg m lk sz x.1 x.2.1 x.2.2.1 x.2.2.2 = 0 := fun x hx => by
  by_cases hg : e 0 = .no
  · unfold bConX at hx
    rw [if_pos hg] at hx
    cases hx
  · rcases con_cases (X := X) (i := i) hg with ⟨h15, _, h1⟩ | ⟨_, _, h1⟩ | ⟨h27, n, _, h1⟩ | ⟨h1, _⟩
    · rw [h1, List.mem_singleton] at hx
      subst hx
      rw [h15] at ho
      exact mk_jump (ok_zero ho).2
    · rw [h1] at hx
      cases hx
    · rw [h1, List.mem_singleton] at hx
      subst hx
      refine mk_const ?_
      by_cases h2 : X i 0 = 2
      · rw [h2] at ho
        exact (ok_rr (by omega) ho).1
      · exact (ok_rrr (by omega) ho).1
    · rw [h1, List.mem_singleton] at hx
      subst hx
      exact ho
section
variable {X : Nat → Nat → Int} {l rg m lk : Nat} {E E1 : Nat → Nat → Vl} {b : Nat → List I4}
end

section
variable {n m lk rg : Nat} {L : Nat → Nat} {X : Nat → Nat → Nat → Int}
theorem bCon_one (X : Nat → Nat → Nat → Int) (E : Nat → Nat → Nat → Vl) (t i : Nat) : (bCon X E t i).length ≤ 1 := bConX_len _ _ _
end
end

section
open Go.RowKit

section
variable {X : Nat → Nat → Int} {l rg m lk : Nat}
theorem ls_step (hok : ∀ i, i < l → ordE rg m lk l (X i 0) (X i 1) (X i 2) (X i 3) = 0) (E : Nat → Nat → Vl) (hs : ∀ F, SolV X l rg F → ∀ i r, i ≤ l → r < rg → (E i r).le (F i r)) (hz : ∀ r, r < rg → (Vl.num 0).le (E 0 r))
    (hn : ∀ E', meas l rg E' < meas l rg E → (∀ F, SolV X l rg F → ∀ i r, i ≤ l → r < rg → (E' i r).le (F i r)) → (∀ r, r < rg → (Vl.num 0).le (E' 0 r)) → ∃ E, LsV X l rg E) : ∃ E, LsV X l rg E := by
  by_cases h : ∀ i s, i < l → s < rg → E i s ≠ .no → ∀ j, j ∈ wyX X i (E i) → ∀ r, r < rg → (bhV X i (E i) r).le (E j r)
  · exact ⟨E, ⟨hz, h⟩, hs⟩
  · have h2 : ∃ i s j r, i < l ∧ s < rg ∧ E i s ≠ .no ∧ j ∈ wyX X i (E i) ∧ r < rg ∧ ¬ (bhV X i (E i) r).le (E j r) := Classical.byContradiction fun hc => h fun i s h1 h2 h3 j h4 r h5 => Classical.byContradiction fun h6 => hc ⟨i, s, j, r, h1, h2, h3, h4, h5, h6⟩
    obtain ⟨i, s, j, r, h1, h3, h4, h5, h6, h7⟩ := h2
    have hj := wy_le hok h1 h5
    have hle : ∀ a c, (E a c).le (updE E j r ((E j r).meet (bhV X i (E i) r)) a c) := updE_le (Vl.le_meet_l _ _)
    refine hn (updE E j r ((E j r).meet (bhV X i (E i) r))) (meas_lt (fun a c _ _ => hle a c) hj h6 fun e => ?_) (fun F hF a c ha hc => ?_) (fun c hc => Vl.le_trans (hz c hc) (hle 0 c))
    · rw [updE_same] at e
      have := Vl.le_meet_r (E j r) (bhV X i (E i) r)
      rw [e] at this
      exact h7 this
    · unfold updE
      split
      · rename_i e
        rw [e.1, e.2]
        have hb := hs F hF i
        refine Vl.meet_le (hs F hF j r hj h6) (Vl.le_trans (bhV_mono hok h1 (fun q hq => hb q (by omega) hq) h6) (hF.s i s h1 h3 (ne_of_le (hb s (by omega) h3) h4) j (wy_reg hok h1 (fun q hq => hb q (by omega) hq) h5) r h6))
      · exact hs F hF a c ha hc
theorem ls_ex0 (hok : ∀ i, i < l → ordE rg m lk l (X i 0) (X i 1) (X i 2) (X i 3) = 0) : ∀ (n : Nat) (E : Nat → Nat → Vl), meas l rg E ≤ n → (∀ F, SolV X l rg F → ∀ i r, i ≤ l → r < rg → (E i r).le (F i r)) → (∀ r, r < rg → (Vl.num 0).le (E 0 r)) → ∃ E, LsV X l rg E
  | 0, E, hm, hs, hz => ls_step hok E hs hz (fun E' hlt => by omega)
  | n + 1, E, hm, hs, hz => ls_step hok E hs hz (fun E' hlt => ls_ex0 hok n E' (by omega))
theorem ls_ex (hok : ∀ i, i < l → ordE rg m lk l (X i 0) (X i 1) (X i 2) (X i 3) = 0) : ∃ E, LsV X l rg E := by
  refine ls_ex0 hok _ (fun i _ => if i = 0 then .num 0 else .no) (Nat.le_refl _) (fun F hF i r hi hr => ?_) (fun r hr => ?_)
  · by_cases h : i = 0
    · subst h
      rw [if_pos rfl]
      exact hF.z r hr
    · rw [if_neg h]
      exact Vl.no_le _
  · rw [if_pos rfl]
    exact Vl.le_refl _

/-! What each order becomes. -/
variable {i : Nat} {e : Nat → Vl}
theorem bc_no (h : e 0 = .no) : bConX X i e = [] := by unfold bConX; rw [if_pos h]
theorem bc_num (h : e 0 ≠ .no) (ho : ordE rg m lk l (X i 0) (X i 1) (X i 2) (X i 3) = 0) (h7 : 1 ≤ X i 0 ∧ X i 0 ≤ 7) {n : Int} (hm : mkV (X i 0) (X i 2) (X i 3) e = .num n) : bConX X i e = [(1, X i 1, n, 0)] := by
  unfold bConX
  rw [if_neg h, if_neg (by omega)]
  by_cases h1 : X i 0 = 1
  · rw [if_neg (by omega)]
    rw [h1] at ho hm ⊢
    have h3 := (ok_three (op := 1) rfl ho).2.2
    have h4 : X i 3 = 0 := by
      unfold okN lim at h3
      simp at h3
      omega
    unfold mkV at hm
    rw [if_pos rfl] at hm
    rw [h4, Vl.num.inj hm]
  · rw [if_pos (by omega), hm]
theorem bc_keep (h : e 0 ≠ .no) (h15 : X i 0 ≠ 15) (hm : (1 ≤ X i 0 ∧ X i 0 ≤ 7) → ∀ n, mkV (X i 0) (X i 2) (X i 3) e ≠ .num n) : bConX X i e = [(X i 0, X i 1, X i 2, X i 3)] := by
  unfold bConX
  rw [if_neg h, if_neg h15]
  split
  · rename_i h7
    have h8 := hm (by omega)
    split
    · rename_i n hn
      exact absurd hn (h8 n)
    · rfl
  · rfl
theorem bc_jump (h : e 0 ≠ .no) (h15 : X i 0 = 15) (hm : e (X i 1).toNat = .num 0) : bConX X i e = [(14, X i 2, 0, 0)] := by
  unfold bConX
  rw [if_neg h, if_pos h15, hm]
  simp
theorem bc_gone (h : e 0 ≠ .no) (h15 : X i 0 = 15) {n : Int} (hm : e (X i 1).toNat = .num n) (hn : n ≠ 0) : bConX X i e = [] := by
  unfold bConX
  rw [if_neg h, if_pos h15, hm]
  simp [hn]
theorem bc_zero (h : e 0 ≠ .no) (h15 : X i 0 = 15) (hm : ∀ n, e (X i 1).toNat ≠ .num n) : bConX X i e = [(15, X i 1, X i 2, X i 3)] := by
  unfold bConX
  rw [if_neg h, if_pos h15]
  split
  · rename_i n hn
    exact absurd hn (hm n)
  · rw [h15]
theorem bc_put (ho : ordE rg m lk l (X i 0) (X i 1) (X i 2) (X i 3) = 0) {x : I4} (hx : x ∈ bConX X i e) : (x.1 = 14 → (X i 0 = 14 ∨ X i 0 = 15) ∧ 0 ≤ x.2.1 ∧ x.2.1 ≤ l) ∧ (x.1 = 15 → X i 0 = 15 ∧ 0 ≤ x.2.2.1 ∧ x.2.2.1 ≤ l) := by
  have hkeep : ∀ x : I4, x = (X i 0, X i 1, X i 2, X i 3) → (x.1 = 14 → (X i 0 = 14 ∨ X i 0 = 15) ∧ 0 ≤ x.2.1 ∧ x.2.1 ≤ l) ∧ (x.1 = 15 → X i 0 = 15 ∧ 0 ≤ x.2.2.1 ∧ x.2.2.1 ≤ l) := fun x e => by
    subst e
    refine ⟨fun h => ⟨Or.inl h, ?_⟩, fun h => ⟨h, ?_⟩⟩
    · have h' : X i 0 = 14 := h
      rw [h'] at ho
      exact okN_place (ok_three (op := 14) rfl ho).1
    · have h' : X i 0 = 15 := h
      rw [h'] at ho
      exact (ok_zero ho).2
  unfold bConX at hx
  split at hx
  · cases hx
  · split at hx
    · rename_i h15
      split at hx
      · split at hx
        · rw [List.mem_singleton] at hx
          subst hx
          rw [h15] at ho
          exact ⟨fun _ => ⟨Or.inr h15, (ok_zero ho).2⟩, fun h => by simp at h⟩
        · cases hx
      · exact hkeep x (List.mem_singleton.1 hx)
    · split at hx
      · split at hx
        · rw [List.mem_singleton] at hx
          subst hx
          exact ⟨fun h => by simp at h, fun h => by simp at h⟩
        · exact hkeep x (List.mem_singleton.1 hx)
      · exact hkeep x (List.mem_singleton.1 hx)
end
end

end Go.Proofs.YtkailbdjilkneaaDoor
