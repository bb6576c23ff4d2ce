/-
  Orders anew, as plain functions: what each becomes, where it lies, that it may be; where something may wait.
-/
import Derived.Test.YtgofbkgfonlceacRDoW
import Derived.Test.YtgofbkgfonlceacFenA
namespace Go.Proofs.Ytgofbkgfonlceac
open Go.RowKit

/-- The new orders as numbers. -/
def lenR (b : Nat → Nat → List I4) (L : Nat → Nat) : Nat → Nat := fun t => (codeR (b t) (L t)).length
def numR (b : Nat → Nat → List I4) (L : Nat → Nat) : Nat → Nat → Nat → Int := fun t i q => nth4 ((codeR (b t) (L t)).getD i fenceI) q
def bFull (X : Nat → Nat → Nat → Int) : Nat → Nat → List I4 := fun t i => bWith (wtO (X t i 0)) (ordAt X t i)
def bLess (D : Nat → Nat → Bool) (X : Nat → Nat → Nat → Int) : Nat → Nat → List I4 := fun t i => bDrop (D t i) (ordAt X t i)
/-- New orders may be, where the old ones may. -/
theorem led_ok {rg m lk sz : Nat} {pl : Nat → Nat} {x : I4} (h : ordE rg m lk sz x.1 x.2.1 x.2.2.1 x.2.2.2 = 0) {sz' : Nat} (hp : ∀ a, a ≤ sz → pl a ≤ sz') : ordE rg m lk sz' (ledO pl x).1 (ledO pl x).2.1 (ledO pl x).2.2.1 (ledO pl x).2.2.2 = 0 := by
  obtain ⟨op, a, b, c⟩ := x
  show ordE rg m lk sz' op (if op = 14 then _ else _) (if op = 15 then _ else _) c = 0
  simp only at h
  have ho := ok_op h
  by_cases h14 : op = 14
  · subst h14
    have h1 := ok_three (op := 14) rfl h
    have h2 := okN_place h1.1
    have h3 := hp a.toNat (by omega)
    unfold ordE
    simp only [kd, Int.reduceEq, ↓reduceIte]
    have h4 : okN rg m lk sz' 4 (pl a.toNat : Int) = true := by
      unfold okN lim
      simp
      omega
    rw [h4]
    have h5 : okN rg m lk sz' 0 b = true := h1.2.1
    have h6 : okN rg m lk sz' 0 c = true := h1.2.2
    rw [h5, h6]
    rfl
  · by_cases h15 : op = 15
    · subst h15
      have h1 := ok_three (op := 15) rfl h
      have h2 := okN_place h1.2.1
      have h3 := hp b.toNat (by omega)
      unfold ordE
      simp only [kd, Int.reduceEq, ↓reduceIte]
      have h4 : okN rg m lk sz' 4 (pl b.toNat : Int) = true := by
        unfold okN lim
        simp
        omega
      rw [h4]
      have h5 : okN rg m lk sz' 1 a = true := h1.1
      have h6 : okN rg m lk sz' 0 c = true := h1.2.2
      rw [h5, h6]
      rfl
    · rw [if_neg h14, if_neg h15]
      rcases op_cases op with e | rfl | rfl | rfl | rfl | rfl | rfl | rfl | rfl | rfl | rfl | rfl | rfl | rfl | rfl | rfl | rfl | rfl | rfl
      · omega
      all_goals first
        | exact absurd rfl h14
        | exact absurd rfl h15
        | exact h
theorem new_ok {n m lk rg : Nat} {L : Nat → Nat} {X : Nat → Nat → Nat → Int} (hc : COk n L X m lk rg) (b : Nat → Nat → List I4) (hb : ∀ t i, t < n → i < L t → ∀ x, x ∈ b t i → x = ordAt X t i ∨ x = fenceI) : ∀ t i, t < n → i < lenR b L t → ordE rg m lk (lenR b L t) (numR b L t i 0) (numR b L t i 1) (numR b L t i 2) (numR b L t i 3) = 0 := by
  intro t j ht hj
  unfold lenR at hj
  rw [code_len] at hj
  obtain ⟨i, k, hi, hk, rfl⟩ := raw_find hj
  have h1 := code_at hk hi fenceI
  have hx : (b t i).getD k fenceI ∈ b t i := by
    rw [List.getD_eq_getElem?_getD, List.getElem?_eq_getElem hk]
    exact List.getElem_mem hk
  unfold numR
  rw [h1]
  refine led_ok (sz := L t) (x := (b t i).getD k fenceI) ?_ (fun a ha => by unfold lenR; rw [code_len]; exact pl_mono ha)
  rcases hb t i ht hi _ hx with e | e
  · rw [e]; exact hc.ord t i ht hi
  · rw [e]; rfl
/-- The first thread that is too long. -/
def longR (L : Nat → Nat) (t : Nat) : Option (Int × Int) := if 400 < L t then some (1, 0) else none
theorem bad_all {E : Nat → Int} : ∀ (f k : Nat), (∀ i, k ≤ i → i < k + f → E i = 0) → firstBad E f k = none
  | 0, _, _ => rfl
  | f + 1, k, h => by
    rw [firstBad, if_pos (h k (by omega) (by omega))]
    exact bad_all f (k + 1) (fun i h1 h2 => h i (by omega) (by omega))
theorem first_congr {R S : Nat → Option (Int × Int)} : ∀ (f k : Nat), (∀ i, k ≤ i → i < k + f → R i = S i) → firstThread R f k = firstThread S f k
  | 0, _, _ => rfl
  | f + 1, k, h => by
    rw [firstThread, firstThread, h k (by omega) (by omega)]
    rw [first_congr f (k + 1) (fun i h1 h2 => h i (by omega) (by omega))]
/-- All that can be wrong with new orders is that there are too many. -/
theorem new_chk {n m lk rg : Nat} {L : Nat → Nat} {X : Nat → Nat → Nat → Int} (hc : COk n L X m lk rg) (hn : 0 < n) (b : Nat → Nat → List I4) (hb : ∀ t i, t < n → i < L t → ∀ x, x ∈ b t i → x = ordAt X t i ∨ x = fenceI) : chk n (lenR b L) (numR b L) m lk rg = firstThread (longR (lenR b L)) n 0 := by
  have h0 : sizesE n m lk rg = 0 := by
    have h1 := hc.n4
    have h2 := hc.m64
    have h3 := hc.lk4
    have h4 := hc.rg0
    have h5 := hc.rg2
    unfold sizesE
    rw [if_neg (by omega), if_neg (by omega)]
  unfold chk
  rw [h0, if_neg (by simp)]
  refine first_congr n 0 fun t _ ht => ?_
  have htn : t < n := by omega
  unfold thr longR
  by_cases e : 400 < lenR b L t
  · rw [if_pos e, if_pos e]
  · rw [if_neg e, if_neg e]
    exact bad_all _ _ fun i _ hi => new_ok hc b hb t i htn (by omega)
theorem long_cases {L : Nat → Nat} : ∀ (f k : Nat), (firstThread (longR L) f k = (0, 0, 0) ∧ ∀ i, k ≤ i → i < k + f → L i ≤ 400) ∨ ∃ t, k ≤ t ∧ t < k + f ∧ firstThread (longR L) f k = (1, (t : Int), 0) ∧ 400 < L t ∧ ∀ i, k ≤ i → i < t → L i ≤ 400
  | 0, k => Or.inl ⟨rfl, fun i h1 h2 => absurd h2 (by omega)⟩
  | f + 1, k => by
    by_cases e : 400 < L k
    · refine Or.inr ⟨k, by omega, by omega, ?_, e, fun i h1 h2 => absurd h2 (by omega)⟩
      rw [firstThread]
      unfold longR
      rw [if_pos e]
    · have hk : longR L k = none := by unfold longR; rw [if_neg e]
      rw [firstThread, hk]
      simp only
      rcases long_cases f (k + 1) with ⟨h1, h2⟩ | ⟨t, h1, h2, h3, h4, h5⟩
      · refine Or.inl ⟨h1, fun i h3 h4 => ?_⟩
        by_cases e2 : i = k
        · rw [e2]; omega
        · exact h2 i (by omega) (by omega)
      · refine Or.inr ⟨t, by omega, by omega, h3, h4, fun i h6 h7 => ?_⟩
        by_cases e2 : i = k
        · rw [e2]; omega
        · exact h5 i (by omega) h7
theorem bFull_in (X : Nat → Nat → Nat → Int) (t i : Nat) (x : I4) (h : x ∈ bFull X t i) : x = ordAt X t i ∨ x = fenceI := by
  unfold bFull bWith at h
  split at h
  · simpa using h
  · exact Or.inl (by simpa using h)
theorem bLess_in (D : Nat → Nat → Bool) (X : Nat → Nat → Nat → Int) (t i : Nat) (x : I4) (h : x ∈ bLess D X t i) : x = ordAt X t i ∨ x = fenceI := by
  unfold bLess bDrop at h
  split at h
  · cases h
  · exact Or.inl (by simpa using h)
theorem less_len (D : Nat → Nat → Bool) (X : Nat → Nat → Nat → Int) (L : Nat → Nat) (t : Nat) : lenR (bLess D X) L t ≤ L t := by
  unfold lenR
  rw [code_len]
  have : ∀ i, plR (bLess D X t) i ≤ i := fun i => by
    induction i with
    | zero => exact Nat.le_refl _
    | succ i ih =>
      rw [plR]
      have : (bLess D X t i).length ≤ 1 := by unfold bLess bDrop; split <;> simp
      omega
  exact this _
/-- Spots: where a thread can stand, and whether something may wait there. -/
inductive Way (L : Nat) (X : Nat → Nat → Int) : Nat → Bool → Prop
  | base : Way L X 0 false
  | step {i j : Nat} {w : Bool} : Way L X i w → i < L → j ∈ nextO (X i 0) (X i 1) (X i 2) i → Way L X j (wtO (X i 0) || (w && !awO (X i 0)))
theorem way_le {L : Nat} {X : Nat → Nat → Int} {m lk rg : Nat} (h : ∀ i, i < L → ordE rg m lk L (X i 0) (X i 1) (X i 2) (X i 3) = 0) {i : Nat} {w : Bool} (hw : Way L X i w) : i ≤ L := by

  induction hw with
  | base => exact Nat.zero_le _
  | @step i j w _ hi hj ih =>
    have ho := h i hi
    unfold nextO at hj
    by_cases e14 : X i 0 = 14
    · rw [if_pos e14] at hj
      rw [e14] at ho
      have := ok_jump ho
      rw [List.mem_singleton.mp hj]
      omega
    · rw [if_neg e14] at hj
      by_cases e15 : X i 0 = 15
      · rw [if_pos e15] at hj
        rw [e15] at ho
        have := (ok_zero ho).2
        simp only [List.mem_cons, List.not_mem_nil, or_false] at hj
        rcases hj with e | e
        · omega
        · rw [e]; omega
      · rw [if_neg e15] at hj
        rw [List.mem_singleton.mp hj]
        omega

end Go.Proofs.Ytgofbkgfonlceac
