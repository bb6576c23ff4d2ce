/-
  Constants are found just once: what is known of the orders that were made is what was known of those that they came of.
-/
import Derived.Test.YtkailbdjilkneaaDoorOptW
import Derived.Test.YtkailbdjilkneaaDoorBuild4
namespace Go.Proofs.YtkailbdjilkneaaDoor
open Go.RowKit

/-- What two values have in common. -/
def Vl.glb : Vl → Vl → Vl
  | .any, b => b
  | a, .any => a
  | .num m, .num n => if m = n then .num m else .no
  | _, _ => .no
theorem Vl.glb_l (a b : Vl) : (a.glb b).le a := by
  cases a <;> cases b <;> simp only [Vl.glb] <;> first
    | exact Vl.le_refl _
    | exact Vl.no_le _
    | exact Vl.le_any _
    | (split <;> first | exact Vl.le_refl _ | exact Vl.no_le _)
theorem Vl.glb_r (a b : Vl) : (a.glb b).le b := by
  cases a <;> cases b <;> simp only [Vl.glb] <;> first
    | exact Vl.le_refl _
    | exact Vl.no_le _
    | exact Vl.le_any _
    | (split <;> first | (rename_i e; rw [e]; exact Vl.le_refl _) | exact Vl.no_le _)
theorem Vl.le_glb {a b c : Vl} (h1 : c.le a) (h2 : c.le b) : c.le (a.glb b) := by
  cases c with
  | no => exact Vl.no_le _
  | any => rw [Vl.any_le h1, Vl.any_le h2]; exact Vl.le_any _
  | num n =>
    rcases Vl.num_le h1 with rfl | rfl
    · exact h2
    · rcases Vl.num_le h2 with rfl | rfl
      · exact Vl.le_refl _
      · simp only [Vl.glb, ↓reduceIte]
        exact Vl.le_refl _
/-- What an order becomes, where it goes. -/
theorem con_cases {X : Nat → Nat → Int} {i : Nat} {e : Nat → Vl} (hg : e 0 ≠ .no) :
    (X i 0 = 15 ∧ e (X i 1).toNat = .num 0 ∧ bConX X i e = [(14, X i 2, 0, 0)]) ∨
    (X i 0 = 15 ∧ (∃ n, e (X i 1).toNat = .num n ∧ n ≠ 0) ∧ bConX X i e = []) ∨
    ((2 ≤ X i 0 ∧ X i 0 ≤ 7) ∧ ∃ n, mkV (X i 0) (X i 2) (X i 3) e = .num n ∧ bConX X i e = [(1, X i 1, n, 0)]) ∨
    (bConX X i e = [(X i 0, X i 1, X i 2, X i 3)] ∧ (X i 0 = 15 → ∀ n, e (X i 1).toNat ≠ .num n) ∧ ((2 ≤ X i 0 ∧ X i 0 ≤ 7) → ∀ n, mkV (X i 0) (X i 2) (X i 3) e ≠ .num n)) := by
  unfold bConX
  rw [if_neg hg]
  by_cases h15 : X i 0 = 15
  · rw [if_pos h15]
    cases hv : e (X i 1).toNat with
    | num n =>
      by_cases hn : n = 0
      · subst hn
        exact Or.inl ⟨h15, rfl, by simp⟩
      · exact Or.inr (Or.inl ⟨h15, ⟨n, rfl, hn⟩, by simp [hn]⟩)
    | no => exact Or.inr (Or.inr (Or.inr ⟨rfl, fun _ n h => (by cases h), fun h => by omega⟩))
    | any => exact Or.inr (Or.inr (Or.inr ⟨rfl, fun _ n h => (by cases h), fun h => by omega⟩))
  · rw [if_neg h15]
    by_cases h27 : 2 ≤ X i 0 ∧ X i 0 ≤ 7
    · rw [if_pos (by omega)]
      cases hv : mkV (X i 0) (X i 2) (X i 3) e with
      | num n => exact Or.inr (Or.inr (Or.inl ⟨h27, n, rfl, rfl⟩))
      | no => exact Or.inr (Or.inr (Or.inr ⟨rfl, fun h => absurd h h15, fun _ n h => (by cases h)⟩))
      | any => exact Or.inr (Or.inr (Or.inr ⟨rfl, fun h => absurd h h15, fun _ n h => (by cases h)⟩))
    · rw [if_neg (by omega)]
      exact Or.inr (Or.inr (Or.inr ⟨rfl, fun h => absurd h h15, fun h => absurd h h27⟩))
/-- The orders that were made, as numbers. -/
def X1 (b : Nat → List I4) (l : Nat) : Nat → Nat → Int := fun i q => nth4 ((codeR b l).getD i fenceI) q
section
variable {X : Nat → Nat → Int} {l rg m lk : Nat} {E : Nat → Nat → Vl} {b : Nat → List I4}
theorem X1_at {i : Nat} {x : I4} (hi : i < l) (hb : b i = [x]) (q : Nat) : X1 b l (plR b i) q = nth4 (ledO (plR b) x) q := by
  unfold X1
  have h := code_at (b := b) (k := 0) (L := l) (by rw [hb]; simp) hi fenceI
  rw [Nat.add_zero] at h
  rw [h, hb]
  rfl
theorem pl_kept {i : Nat} {x : I4} (hb : b i = [x]) : plR b (i + 1) = plR b i + 1 := by rw [plR, hb]; rfl
theorem pl_gone {i : Nat} (hb : b i = []) : plR b (i + 1) = plR b i := by rw [plR, hb]; rfl
theorem pl_lt {i : Nat} {x : I4} (hi : i < l) (hb : b i = [x]) : plR b i < plR b l := by
  have h1 := pl_mono (b := b) (i := i + 1) (j := l) (by omega)
  rw [pl_kept hb] at h1
  omega
theorem pl_uniq {i j : Nat} {x y : I4} (hi : b i = [x]) (hj : b j = [y]) (he : plR b i = plR b j) : i = j := by
  rcases Nat.lt_trichotomy i j with h | h | h
  · have h1 := pl_mono (b := b) (i := i + 1) (j := j) h
    rw [pl_kept hi] at h1
    omega
  · exact h
  · have h1 := pl_mono (b := b) (i := j + 1) (j := i) h
    rw [pl_kept hj] at h1
    omega
/-- Of an order that stays as it is. -/
theorem same_X1 {i : Nat} (hi : i < l) (hb : b i = [(X i 0, X i 1, X i 2, X i 3)]) : X1 b l (plR b i) 0 = X i 0 ∧ X1 b l (plR b i) 1 = (if X i 0 = 14 then (plR b (X i 1).toNat : Int) else X i 1) ∧ X1 b l (plR b i) 2 = (if X i 0 = 15 then (plR b (X i 2).toNat : Int) else X i 2) ∧ X1 b l (plR b i) 3 = X i 3 :=
  ⟨X1_at hi hb 0, X1_at hi hb 1, X1_at hi hb 2, X1_at hi hb 3⟩
theorem same_bh {i : Nat} (hi : i < l) (hb : b i = [(X i 0, X i 1, X i 2, X i 3)]) (e : Nat → Vl) (r : Nat) : bhV (X1 b l) (plR b i) e r = bhV X i e r := by
  obtain ⟨h0, h1, h2, h3⟩ := same_X1 hi hb
  unfold bhV wrX
  rw [h0, h1, h2, h3]
  by_cases h14 : X i 0 = 14
  · have e1 : ∀ a b : Int, wrL (X i 0) a b = -1 := fun a b => by rw [h14]; rfl
    rw [e1, e1, if_neg (by omega), if_neg (by omega)]
  · by_cases h15 : X i 0 = 15
    · have e1 : ∀ a b : Int, wrL (X i 0) a b = -1 := fun a b => by rw [h15]; rfl
      rw [e1, e1, if_neg (by omega), if_neg (by omega)]
    · rw [if_neg h14, if_neg h15]
theorem same_wy {i : Nat} (hi : i < l) (hb : b i = [(X i 0, X i 1, X i 2, X i 3)]) (e : Nat → Vl) : wyX (X1 b l) (plR b i) e = (wyX X i e).map (plR b) := by
  obtain ⟨h0, h1, h2, h3⟩ := same_X1 hi hb
  have hk := pl_kept hb
  unfold wyX wyL
  rw [h0, h1, h2]
  by_cases h15 : X i 0 = 15
  · rw [if_pos h15, if_pos h15, if_neg (by omega), if_pos h15]
    cases e (X i 1).toNat with
    | no => rfl
    | any => simp [hk]
    | num n =>
      simp only
      by_cases hn : n = 0
      · rw [if_pos hn, if_pos hn]; simp
      · rw [if_neg hn, if_neg hn]; simp [hk]
  · rw [if_neg h15, if_neg h15, if_neg h15]
    unfold nxL
    by_cases h14 : X i 0 = 14
    · rw [if_pos h14, if_pos h14, if_pos h14]; simp
    · rw [if_neg h14, if_neg h14, if_neg h15, if_neg h15]; simp [hk]
/-- Where an order goes on behind those that are gone. -/
theorem chain_on (hs : SolV X l rg E) (hok : ∀ i, i < l → ordE rg m lk l (X i 0) (X i 1) (X i 2) (X i 3) = 0) (hrg : 0 < rg) (hb : ∀ i, i < l → b i = bConX X i (E i)) : ∀ (f j : Nat), l - j ≤ f → j ≤ l → E j 0 ≠ .no → ∃ i, i ≤ l ∧ E i 0 ≠ .no ∧ (i < l → ∃ x, b i = [x]) ∧ plR b i = plR b j ∧ ∀ r, r < rg → (E j r).le (E i r)
  | f, j, hf, hj, hg => by
    by_cases hjl : j = l
    · exact ⟨j, hj, hg, fun h => absurd h (by omega), rfl, fun r _ => Vl.le_refl _⟩
    · have hlt : j < l := by omega
      have hbj := hb j hlt
      rcases con_cases (X := X) (i := j) hg with ⟨_, _, h1⟩ | ⟨h15, ⟨n, hv, hn⟩, h1⟩ | ⟨_, n, _, h1⟩ | ⟨h1, _⟩
      · exact ⟨j, hj, hg, fun _ => ⟨_, hbj.trans h1⟩, rfl, fun r _ => Vl.le_refl _⟩
      · have hw : wyX X j (E j) = [j + 1] := by
          unfold wyX wyL
          rw [if_pos h15, hv]
          simp [hn]
        have hbh : ∀ r, bhV X j (E j) r = E j r := fun r => by
          unfold bhV wrX
          have e1 : wrL (X j 0) (X j 1) (X j 2) = -1 := by rw [h15]; rfl
          rw [e1, if_neg (by omega)]
        have hle : ∀ r, r < rg → (E j r).le (E (j + 1) r) := fun r hr => by
          have := hs.s j 0 hlt hrg hg (j + 1) (by rw [hw]; simp) r hr
          rw [hbh] at this
          exact this
        match f, hf with
        | 0, hf => omega
        | f + 1, hf =>
          obtain ⟨i, g1, g2, g3, g4, g5⟩ := chain_on hs hok hrg hb f (j + 1) (by omega) (by omega) (ne_of_le (hle 0 hrg) hg)
          exact ⟨i, g1, g2, g3, g4.trans (pl_gone (hbj.trans h1)), fun r hr => Vl.le_trans (hle r hr) (g5 r hr)⟩
      · exact ⟨j, hj, hg, fun _ => ⟨_, hbj.trans h1⟩, rfl, fun r _ => Vl.le_refl _⟩
      · exact ⟨j, hj, hg, fun _ => ⟨_, hbj.trans h1⟩, rfl, fun r _ => Vl.le_refl _⟩
end
section
variable {X : Nat → Nat → Int} {l rg m lk : Nat} {E E1 : Nat → Nat → Vl} {b : Nat → List I4}
open Classical in
/-- What is known of the orders that were made, by what was known. -/
noncomputable def upV (b : Nat → List I4) (l : Nat) (E : Nat → Nat → Vl) : Nat → Nat → Vl := fun i' r => if h : ∃ i, i < l ∧ (∃ x, b i = [x]) ∧ plR b i = i' then E (Classical.choose h) r else E l r
theorem upV_at {i : Nat} (hi : i < l) (hx : ∃ x, b i = [x]) (r : Nat) : upV b l E (plR b i) r = E i r := by
  have h : ∃ j, j < l ∧ (∃ x, b j = [x]) ∧ plR b j = plR b i := ⟨i, hi, hx, rfl⟩
  unfold upV
  rw [dif_pos h]
  obtain ⟨h1, ⟨y, h2⟩, h3⟩ := Classical.choose_spec h
  obtain ⟨x, hx⟩ := hx
  rw [pl_uniq h2 hx h3]
theorem upV_end (r : Nat) : upV b l E (plR b l) r = E l r := by
  have h : ¬ ∃ j, j < l ∧ (∃ x, b j = [x]) ∧ plR b j = plR b l := fun ⟨j, h1, ⟨x, h2⟩, h3⟩ => by
    have := pl_lt h1 h2
    omega
  unfold upV
  rw [dif_neg h]
theorem upV_on (hs : SolV X l rg E) (hok : ∀ i, i < l → ordE rg m lk l (X i 0) (X i 1) (X i 2) (X i 3) = 0) (hrg : 0 < rg) (hb : ∀ i, i < l → b i = bConX X i (E i)) {j : Nat} (hj : j ≤ l) (hg : E j 0 ≠ .no) {r : Nat} (hr : r < rg) : (E j r).le (upV b l E (plR b j) r) := by
  obtain ⟨i, g1, g2, g3, g4, g5⟩ := chain_on hs hok hrg hb (l - j) j (Nat.le_refl _) hj hg
  rw [← g4]
  by_cases h : i < l
  · rw [upV_at h (g3 h)]
    exact g5 r hr
  · have : i = l := by omega
    rw [this, upV_end]
    rw [this] at g5
    exact g5 r hr
/-- It is a solution. -/
theorem upV_sol (h : LsV X l rg E) (hok : ∀ i, i < l → ordE rg m lk l (X i 0) (X i 1) (X i 2) (X i 3) = 0) (hrg : 0 < rg) (hb : ∀ i, i < l → b i = bConX X i (E i)) : SolV (X1 b l) (plR b l) rg (upV b l E) := by
  have hs := h.sol
  have h00 : E 0 0 ≠ .no := ne_of_le (hs.z 0 hrg) (num_ne _)
  refine ⟨fun r hr => ?_, fun i' s hi' hsr hne j' hj' r hr => ?_⟩
  · have := upV_on hs hok hrg hb (j := 0) (Nat.zero_le _) h00 hr
    exact Vl.le_trans (hs.z r hr) this
  · obtain ⟨i, k, hi, hk, rfl⟩ := raw_find hi'
    have hkl := bConX_len X i (E i)
    rw [← hb i hi] at hkl
    have hk0 : k = 0 := by omega
    subst hk0
    rw [Nat.add_zero] at hne hj' ⊢
    obtain ⟨x, hx⟩ : ∃ x, b i = [x] := List.length_eq_one_iff.1 (by omega)
    have hup : upV b l E (plR b i) = E i := by
      funext q
      exact upV_at hi ⟨x, hx⟩ q
    rw [hup] at hne hj' ⊢
    have hg := h.there hok (by omega) hsr hne 0 hrg
    have hto : ∀ j, j ∈ wyX X i (E i) → ∀ r, r < rg → (bhV X i (E i) r).le (upV b l E (plR b j) r) := fun j hj r hr => by
      have hjl := wy_le hok hi hj
      have hle := hs.s i s hi hsr hne j hj
      have hgj : E j 0 ≠ .no := ne_of_le (hle 0 hrg) (bhV_there hok hi (h.there hok (by omega) hsr hne) hrg)
      exact Vl.le_trans (hle r hr) (upV_on hs hok hrg hb hjl hgj hr)
    have hbi := hb i hi
    rcases con_cases (X := X) (i := i) hg with ⟨h15, hv, h1⟩ | ⟨_, _, h1⟩ | ⟨h27, n, hv, h1⟩ | ⟨h1, _⟩
    · have hb1 := hbi.trans h1
      have w0 : wyX X i (E i) = [(X i 2).toNat] := by
        unfold wyX wyL
        rw [if_pos h15, hv]
        simp
      have e0 : X1 b l (plR b i) 0 = 14 := X1_at hi hb1 0
      have e1 : X1 b l (plR b i) 1 = (plR b (X i 2).toNat : Int) := X1_at hi hb1 1
      have w1 : wyX (X1 b l) (plR b i) (E i) = [plR b (X i 2).toNat] := by
        unfold wyX wyL nxL
        rw [e0, e1]
        simp
      have b1 : ∀ q, bhV (X1 b l) (plR b i) (E i) q = bhV X i (E i) q := fun q => by
        unfold bhV wrX
        rw [e0, h15]
        have z1 : ∀ a b : Int, wrL 14 a b = -1 := fun _ _ => rfl
        have z2 : ∀ a b : Int, wrL 15 a b = -1 := fun _ _ => rfl
        rw [z1, z2, if_neg (by omega), if_neg (by omega)]
      rw [w1] at hj'
      simp only [List.mem_singleton] at hj'
      subst hj'
      rw [b1]
      exact hto _ (by rw [w0]; simp) r hr
    · rw [hbi.trans h1] at hx
      cases hx
    · have hb1 := hbi.trans h1
      have hk1 := pl_kept hb1
      have e0 : X1 b l (plR b i) 0 = 1 := X1_at hi hb1 0
      have e1 : X1 b l (plR b i) 1 = X i 1 := X1_at hi hb1 1
      have e2 : X1 b l (plR b i) 2 = n := X1_at hi hb1 2
      have w0 : i + 1 ∈ wyX X i (E i) := by
        unfold wyX wyL nxL
        rw [if_neg (by omega), if_neg (by omega), if_neg (by omega)]
        simp
      have w1 : wyX (X1 b l) (plR b i) (E i) = [plR b i + 1] := by
        unfold wyX wyL nxL
        rw [e0]
        simp
      have b1 : ∀ q, bhV (X1 b l) (plR b i) (E i) q = bhV X i (E i) q := fun q => by
        unfold bhV wrX
        rw [e0, e1, e2]
        have z1 : wrL 1 (X i 1) n = X i 1 := rfl
        have z2 : wrL (X i 0) (X i 1) (X i 2) = X i 1 := by
          unfold wrL
          rw [if_pos (by omega)]
        rw [z1, z2, hv]
        have z3 : ∀ c, mkV 1 n c (E i) = .num n := fun c => by unfold mkV; rw [if_pos rfl]
        rw [z3]
      rw [w1] at hj'
      simp only [List.mem_singleton] at hj'
      subst hj'
      rw [b1, ← hk1]
      exact hto _ w0 r hr
    · have hb1 := hbi.trans h1
      rw [same_wy hi hb1] at hj'
      obtain ⟨j, hj, rfl⟩ := List.mem_map.1 hj'
      rw [same_bh hi hb1]
      exact hto j hj r hr
end

end Go.Proofs.YtkailbdjilkneaaDoor
