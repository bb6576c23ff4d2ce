/-
  Values that are always the same: the program's way to the least solution (what is still to be handed on), the document's passes; what each order becomes.
-/
import Derived.Test.YtkailbdjilkneaaDoorOptP
import Derived.Test.YtkailbdjilkneaaDoorInProg
namespace Go.Proofs.YtkailbdjilkneaaDoor
open Go.RowKit

theorem num_ne (n : Int) : Vl.num n ≠ .no := fun e => by cases e
theorem ne_of_le {a b : Vl} (h : a.le b) (hne : a ≠ .no) : b ≠ .no := fun e => by
  subst e
  exact hne (Vl.le_no h)
/-- What order i makes of register r can hang on what register s holds ahead of it. -/
def depV (X : Nat → Nat → Int) (i r s : Nat) : Prop := r = s ∨ wrX X i = (r : Int) ∨ (X i 0 = 15 ∧ (X i 1).toNat = s)
/-- While it is being found: O is still to be handed on; of P it is being handed on; the first k registers are there ahead of order 0. -/
structure WkV (X : Nat → Nat → Int) (l rg k : Nat) (E : Nat → Nat → Vl) (O : List (Nat × Nat)) (P : Nat → Nat → Nat → Prop) : Prop where
  sound : ∀ F, SolV X l rg F → ∀ i r, i ≤ l → r < rg → (E i r).le (F i r)
  opn : ∀ i s, (i, s) ∈ O → i ≤ l ∧ s < rg ∧ E i s ≠ .no
  z : ∀ r, r < k → r < rg → (Vl.num 0).le (E 0 r)
  cons : ∀ i s, i < l → s < rg → E i s ≠ .no → ∀ j, j ∈ wyX X i (E i) → ∀ r, r < rg → (bhV X i (E i) r).le (E j r) ∨ (∃ q, (i, q) ∈ O ∧ depV X i r q) ∨ P i j r
def newO (E : Nat → Nat → Vl) (i s : Nat) (v : Vl) (O : List (Nat × Nat)) : List (Nat × Nat) := if (E i s).meet v = E i s then O else O ++ [(i, s)]
theorem newO_mem {E : Nat → Nat → Vl} {i s : Nat} {v : Vl} {O : List (Nat × Nat)} {x : Nat × Nat} (h : x ∈ O) : x ∈ newO E i s v O := by
  unfold newO
  split
  · exact h
  · exact List.mem_append_left _ h
section
variable {X : Nat → Nat → Int} {l rg k m lk : Nat} {E : Nat → Nat → Vl} {O : List (Nat × Nat)} {P : Nat → Nat → Nat → Prop}
theorem WkV.mono (h : WkV X l rg k E O P) {Q : Nat → Nat → Nat → Prop} (hq : ∀ i j r, i < l → P i j r → Q i j r) : WkV X l rg k E O Q :=
  ⟨h.sound, h.opn, h.z, fun i s hi hs hne j hj r hr => by
    rcases h.cons i s hi hs hne j hj r hr with h1 | h1 | h1
    · exact Or.inl h1
    · exact Or.inr (Or.inl h1)
    · exact Or.inr (Or.inr (hq i j r hi h1))⟩
theorem updE_self {E : Nat → Nat → Vl} {i s : Nat} {v : Vl} (h : v = E i s) : updE E i s v = E := by
  funext j r
  unfold updE
  split
  · rename_i e
    rw [e.1, e.2, h]
  · rfl
theorem wkV_start : WkV X l rg 0 (fun _ _ => .no) [] P :=
  ⟨fun _ _ _ _ _ _ => Vl.no_le _, fun _ _ h => by (cases h), fun r h => absurd h (Nat.not_lt_zero r), fun _ _ _ _ h => absurd rfl h⟩
/-- A value comes to a register ahead of an order. -/
theorem WkV.meet (h : WkV X l rg k E O P) {i s : Nat} {v : Vl} (hi : i ≤ l) (hs : s < rg) (hv : ∀ F, SolV X l rg F → v.le (F i s)) : WkV X l rg k (updE E i s ((E i s).meet v)) (newO E i s v O) P := by
  by_cases hc : (E i s).meet v = E i s
  · rw [updE_self hc]
    unfold newO
    rw [if_pos hc]
    exact h
  · have hle := fun j r => updE_le (Vl.le_meet_l (E i s) v) j r
    have hO : newO E i s v O = O ++ [(i, s)] := if_neg hc
    refine ⟨fun F hF a r ha hr => ?_, fun a q hq => ?_, fun r hk hr => Vl.le_trans (h.z r hk hr) (hle 0 r), fun a q ha hq hne j hj r hr => ?_⟩
    · unfold updE
      split
      · rename_i e
        rw [e.1, e.2]
        exact Vl.meet_le (h.sound F hF i s hi hs) (hv F hF)
      · exact h.sound F hF a r ha hr
    · rw [hO, List.mem_append] at hq
      rcases hq with hq | hq
      · obtain ⟨h1, h2, h3⟩ := h.opn a q hq
        exact ⟨h1, h2, ne_of_le (hle a q) h3⟩
      · simp only [List.mem_singleton, Prod.mk.injEq] at hq
        obtain ⟨rfl, rfl⟩ := hq
        refine ⟨hi, hs, ?_⟩
        rw [updE_same]
        intro e
        have h1 : (E a q).meet v = .no := e
        have h2 := Vl.le_meet_l (E a q) v
        rw [h1] at h2
        exact hc (by rw [h1, Vl.le_no h2])
    · by_cases ea : a = i
      · subst ea
        by_cases hd : depV X a r s
        · exact Or.inr (Or.inl ⟨s, by rw [hO]; simp, hd⟩)
        · have hrs : r ≠ s := fun e => hd (Or.inl e)
          have hw : wrX X a ≠ (r : Int) := fun e => hd (Or.inr (Or.inl e))
          have eb : bhV X a (updE E a s ((E a s).meet v) a) r = E a r := by
            unfold bhV updE
            rw [if_neg hw, if_neg (fun e => hrs e.2)]
          rw [eb]
          have ew : wyX X a (updE E a s ((E a s).meet v) a) = wyX X a (E a) := by
            unfold wyX wyL
            split
            · rename_i e15
              rw [show updE E a s ((E a s).meet v) a (X a 1).toNat = E a (X a 1).toNat from if_neg fun e => hd (Or.inr (Or.inr ⟨e15, e.2⟩))]
            · rfl
          rw [ew] at hj
          by_cases hn : E a r = .no
          · rw [hn]
            exact Or.inl (Vl.no_le _)
          · have eb2 : bhV X a (E a) r = E a r := by
              unfold bhV
              rw [if_neg hw]
            rcases h.cons a r ha hr hn j hj r hr with h1 | ⟨q', h1, h2⟩ | h1
            · rw [eb2] at h1
              exact Or.inl (Vl.le_trans h1 (hle j r))
            · exact Or.inr (Or.inl ⟨q', newO_mem h1, h2⟩)
            · exact Or.inr (Or.inr h1)
      · rw [updE_row ea] at hne hj ⊢
        rcases h.cons a q ha hq hne j hj r hr with h1 | ⟨q', h1, h2⟩ | h1
        · exact Or.inl (Vl.le_trans h1 (hle j r))
        · exact Or.inr (Or.inl ⟨q', newO_mem h1, h2⟩)
        · exact Or.inr (Or.inr h1)
/-- The order that is being handed on: what comes to order j of it. -/
theorem WkV.bh (h : WkV X l rg k E O P) (hok : ∀ i, i < l → ordE rg m lk l (X i 0) (X i 1) (X i 2) (X i 3) = 0) {a q j s : Nat} (ha : a < l) (hq : q < rg) (hne : E a q ≠ .no) (hs : s < rg) (hj : ∀ F, SolV X l rg F → j ∈ wyX X a (F a)) : ∀ F, SolV X l rg F → (bhV X a (E a) s).le (F j s) := fun F hF => by
  have h1 := h.sound F hF a
  exact Vl.le_trans (bhV_mono hok ha (fun r hr => h1 r (by omega) hr) hs) (hF.s a q ha hq (ne_of_le (h1 q (by omega) hq) hne) j (hj F hF) s hs)
/-- .. and then nothing is left to do there. -/
theorem WkV.give (h : WkV X l rg k E O P) (hok : ∀ i, i < l → ordE rg m lk l (X i 0) (X i 1) (X i 2) (X i 3) = 0) {a q j s : Nat} (ha : a < l) (hq : q < rg) (hne : E a q ≠ .no) (hs : s < rg) (hjl : j ≤ l) (hj : ∀ F, SolV X l rg F → j ∈ wyX X a (F a)) :
    WkV X l rg k (updE E j s ((E j s).meet (bhV X a (E a) s))) (newO E j s (bhV X a (E a) s) O) (fun i b r => P i b r ∧ ¬ (i = a ∧ b = j ∧ r = s)) := by
  have h2 := h.meet hjl hs (h.bh hok ha hq hne hs hj)
  refine ⟨h2.sound, h2.opn, h2.z, fun i s' hi hs' hne' b hb r hr => ?_⟩
  rcases h2.cons i s' hi hs' hne' b hb r hr with h3 | h3 | h3
  · exact Or.inl h3
  · exact Or.inr (Or.inl h3)
  · by_cases e : i = a ∧ b = j ∧ r = s
    · obtain ⟨rfl, rfl, rfl⟩ := e
      by_cases hc : (E b r).meet (bhV X i (E i) r) = E b r
      · rw [updE_self hc]
        left
        have := Vl.le_meet_r (E b r) (bhV X i (E i) r)
        rw [hc] at this
        exact this
      · by_cases eb : b = i
        · subst eb
          exact Or.inr (Or.inl ⟨r, by unfold newO; rw [if_neg hc]; simp, Or.inl rfl⟩)
        · left
          rw [updE_row (fun e => eb e.symm), updE_same]
          exact Vl.le_meet_r _ _
    · exact Or.inr (Or.inr ⟨h3, e⟩)
/-- The last one is taken. -/
theorem WkV.pop {a s : Nat} (h : WkV X l rg k E (O ++ [(a, s)]) (fun _ _ _ => False)) : WkV X l rg k E O (fun i j r => i = a ∧ depV X a r s ∧ j ∈ wyX X a (E a)) :=
  ⟨h.sound, fun i q hq => h.opn i q (List.mem_append_left _ hq), h.z, fun i q hi hq hne j hj r hr => by
    rcases h.cons i q hi hq hne j hj r hr with h1 | ⟨q', h1, h2⟩ | h1
    · exact Or.inl h1
    · rw [List.mem_append] at h1
      rcases h1 with h1 | h1
      · exact Or.inr (Or.inl ⟨q', h1, h2⟩)
      · simp only [List.mem_singleton, Prod.mk.injEq] at h1
        obtain ⟨rfl, rfl⟩ := h1
        exact Or.inr (Or.inr ⟨rfl, h2, hj⟩)
    · exact absurd h1 id⟩
/-- At the end. -/
theorem WkV.done (h : WkV X l rg rg E [] (fun _ _ _ => False)) : LsV X l rg E :=
  ⟨⟨fun r hr => h.z r hr hr, fun i s hi hs hne j hj r hr => by
    rcases h.cons i s hi hs hne j hj r hr with h1 | ⟨q', h1, _⟩ | h1
    · exact h1
    · cases h1
    · exact absurd h1 id⟩, h.sound⟩
theorem newO_meas {E : Nat → Nat → Vl} {i s : Nat} {v : Vl} (hi : i ≤ l) (hs : s < rg) : (newO E i s v O).length + meas l rg (updE E i s ((E i s).meet v)) ≤ O.length + meas l rg E := by
  unfold newO
  split
  · rename_i hc
    rw [updE_self hc]
    exact Nat.le_refl _
  · rename_i hc
    have := meas_lt (l := l) (rg := rg) (E := E) (F := updE E i s ((E i s).meet v)) (fun j r _ _ => updE_le (Vl.le_meet_l (E i s) v) j r) hi hs (by rw [updE_same]; exact hc)
    rw [List.length_append, List.length_singleton]
    omega

/-! The document's passes. -/
/-- In a pass: E0 as it began; the first k orders are done; ag: has something turned? -/
structure PasV (X : Nat → Nat → Int) (l rg : Nat) (E0 E : Nat → Nat → Vl) (G : Nat → Bool) (k : Nat) (ag : Bool) : Prop where
  sound : ∀ F, SolV X l rg F → ∀ i r, i ≤ l → r < rg → (E i r).le (F i r)
  gs : ∀ i, i ≤ l → (G i = true → ∀ r, r < rg → E i r ≠ .no) ∧ (G i = false → ∀ r, r < rg → E i r = .no)
  z : G 0 = true ∧ ∀ r, r < rg → (Vl.num 0).le (E 0 r)
  kl : k ≤ l
  same : ag = false → E = E0 ∧ ∀ i, i < k → G i = true → ∀ j, j ∈ wyX X i (E i) → ∀ r, r < rg → (bhV X i (E i) r).le (E j r)
  less : ag = true → meas l rg E < meas l rg E0
/-- All that an order makes comes to one that can follow it. -/
def ledE (rg : Nat) (E : Nat → Nat → Vl) (j : Nat) (e : Nat → Vl) : Nat → Nat → Vl := fun i r => if i = j ∧ r < rg then (E j r).meet (e r) else E i r
def ledG (G : Nat → Bool) (j : Nat) : Nat → Bool := fun i => if i = j then true else G i
section
variable {E0 : Nat → Nat → Vl} {G : Nat → Bool} {ag : Bool}
theorem ledE_le (E : Nat → Nat → Vl) (j : Nat) (e : Nat → Vl) (i r : Nat) : (E i r).le (ledE rg E j e i r) := by
  unfold ledE
  split
  · rename_i h
    rw [h.1]
    exact Vl.le_meet_l _ _
  · exact Vl.le_refl _
theorem ledE_self {E : Nat → Nat → Vl} {j : Nat} {e : Nat → Vl} (h : ∀ r, r < rg → (E j r).meet (e r) = E j r) : ledE rg E j e = E := by
  funext i r
  unfold ledE
  split
  · rename_i h1
    rw [h r h1.2, h1.1]
  · rfl
theorem PasV.lead (h : PasV X l rg E0 E G k ag) {j : Nat} {e : Nat → Vl} (hj : j ≤ l) (he : ∀ r, r < rg → e r ≠ .no) (hv : ∀ F, SolV X l rg F → ∀ r, r < rg → (e r).le (F j r)) {ag' : Bool} (hrg : 0 < rg)
    (h0 : ag' = false → ag = false ∧ G j = true ∧ ∀ r, r < rg → (E j r).meet (e r) = E j r) (h1 : ag' = true → ag = true ∨ G j = false ∨ ∃ r, r < rg ∧ (E j r).meet (e r) ≠ E j r) : PasV X l rg E0 (ledE rg E j e) (ledG G j) k ag' := by
  refine ⟨fun F hF i r hi hr => ?_, fun i hi => ⟨fun hg r hr => ?_, fun hg r hr => ?_⟩, ⟨?_, fun r hr => Vl.le_trans (h.z.2 r hr) (ledE_le E j e 0 r)⟩, h.kl, fun ha => ?_, fun ha => ?_⟩
  · unfold ledE
    split
    · rename_i h2
      rw [h2.1]
      exact Vl.meet_le (h.sound F hF j r hj hr) (hv F hF r hr)
    · exact h.sound F hF i r hi hr
  · unfold ledE
    split
    · exact ne_of_le (Vl.le_meet_r _ _) (he r hr)
    · rename_i h2
      have h3 : i ≠ j := fun e => h2 ⟨e, hr⟩
      unfold ledG at hg
      rw [if_neg h3] at hg
      exact (h.gs i hi).1 hg r hr
  · unfold ledG at hg
    split at hg
    · cases hg
    · rename_i h3
      unfold ledE
      rw [if_neg (fun e => h3 e.1)]
      exact (h.gs i hi).2 hg r hr
  · unfold ledG
    split
    · rfl
    · exact h.z.1
  · obtain ⟨h2, h3, h4⟩ := h0 ha
    obtain ⟨h5, h6⟩ := h.same h2
    rw [ledE_self h4]
    refine ⟨h5, fun i hi hg => h6 i hi ?_⟩
    unfold ledG at hg
    split at hg
    · rename_i e2; rw [e2]; exact h3
    · exact hg
  · have hle : meas l rg (ledE rg E j e) ≤ meas l rg E := meas_le fun i r _ _ => ledE_le E j e i r
    have hlt : ∀ r, r < rg → (E j r).meet (e r) ≠ E j r → meas l rg (ledE rg E j e) < meas l rg E := fun r hr hne => meas_lt (fun i r _ _ => ledE_le E j e i r) hj hr (by
      unfold ledE
      rw [if_pos ⟨rfl, hr⟩]
      exact hne)
    have h9 : meas l rg E ≤ meas l rg E0 := by
      cases ag with
      | true => exact Nat.le_of_lt (h.less rfl)
      | false => rw [(h.same rfl).1]; exact Nat.le_refl _
    rcases h1 ha with h2 | h2 | ⟨r, hr, hne⟩
    · exact Nat.lt_of_le_of_lt hle (h.less h2)
    · have e0 := (h.gs j hj).2 h2 0 hrg
      refine Nat.lt_of_lt_of_le (hlt 0 hrg ?_) h9
      rw [e0]
      exact he 0 hrg
    · exact Nat.lt_of_lt_of_le (hlt r hr hne) h9
theorem PasV.next (h : PasV X l rg E0 E G k ag) (hk : k < l) (hn : ag = false → G k = true → ∀ j, j ∈ wyX X k (E k) → ∀ r, r < rg → (bhV X k (E k) r).le (E j r)) : PasV X l rg E0 E G (k + 1) ag :=
  ⟨h.sound, h.gs, h.z, hk, fun ha => ⟨(h.same ha).1, fun i hi hg => by
    by_cases e : i = k
    · rw [e] at hg ⊢
      exact hn ha hg
    · exact (h.same ha).2 i (by omega) hg⟩, h.less⟩
theorem PasV.again (h : PasV X l rg E0 E G l ag) : PasV X l rg E E G 0 false :=
  ⟨h.sound, h.gs, h.z, Nat.zero_le _, fun _ => ⟨rfl, fun i hi => absurd hi (Nat.not_lt_zero _)⟩, fun e => by cases e⟩
theorem PasV.done (h : PasV X l rg E0 E G l false) : LsV X l rg E ∧ ∀ i, i ≤ l → (G i = true ↔ ∀ r, r < rg → E i r ≠ .no) ∧ (G i = false ↔ ∀ r, r < rg → E i r = .no) ∨ rg = 0 := by
  refine ⟨⟨⟨h.z.2, fun i s hi hs hne j hj r hr => ?_⟩, h.sound⟩, fun i hi => ?_⟩
  · have hg : G i = true := by
      cases e : G i with
      | true => rfl
      | false => exact absurd ((h.gs i (by omega)).2 e s hs) hne
    exact (h.same rfl).2 i hi hg j hj r hr
  · by_cases hr : rg = 0
    · exact Or.inr hr
    · obtain ⟨h1, h2⟩ := h.gs i hi
      refine Or.inl ⟨⟨h1, fun ha => ?_⟩, ⟨h2, fun ha => ?_⟩⟩
      · cases e : G i with
        | true => rfl
        | false => exact absurd (h2 e 0 (by omega)) (ha 0 (by omega))
      · cases e : G i with
        | false => rfl
        | true => exact absurd (ha 0 (by omega)) (h1 e 0 (by omega))
end
end

/-! What each order becomes. -/
def bConX (X : Nat → Nat → Int) (i : Nat) (e : Nat → Vl) : List I4 :=
  if e 0 = .no then []
  else if X i 0 = 15 then (match e (X i 1).toNat with | .num n => if n = 0 then [(14, X i 2, 0, 0)] else [] | _ => [(X i 0, X i 1, X i 2, X i 3)])
  else if X i 0 = 2 ∨ X i 0 = 3 ∨ X i 0 = 4 ∨ X i 0 = 5 ∨ X i 0 = 6 ∨ X i 0 = 7 then (match mkV (X i 0) (X i 2) (X i 3) e with | .num n => [(1, X i 1, n, 0)] | _ => [(X i 0, X i 1, X i 2, X i 3)])
  else [(X i 0, X i 1, X i 2, X i 3)]
def bCon (X : Nat → Nat → Nat → Int) (E : Nat → Nat → Nat → Vl) : Nat → Nat → List I4 := fun t i => bConX (X t) i (E t i)
theorem bConX_len (X : Nat → Nat → Int) (i : Nat) (e : Nat → Vl) : (bConX X i e).length ≤ 1 := by
  unfold bConX
  repeat' split
  all_goals simp
theorem bConX_congr {X : Nat → Nat → Int} {l rg m lk i : Nat} (hrg : 0 < rg) (ho : ordE rg m lk l (X i 0) (X i 1) (X i 2) (X i 3) = 0) {e f : Nat → Vl} (h : ∀ r, r < rg → e r = f r) : bConX X i e = bConX X i f := by
  have e1 : X i 0 = 15 → e (X i 1).toNat = f (X i 1).toNat := fun e15 => by
    rw [e15] at ho
    have := (ok_zero ho).1
    exact h _ (by omega)
  have e2 : mkV (X i 0) (X i 2) (X i 3) e = mkV (X i 0) (X i 2) (X i 3) f := by
    refine Vl.le_antisymm (mkV_mono2 ho fun r hr => ?_) (mkV_mono2 ho fun r hr => ?_)
    · rw [h r hr]; exact Vl.le_refl _
    · rw [h r hr]; exact Vl.le_refl _
  unfold bConX
  rw [h 0 hrg, e2]
  by_cases e15 : X i 0 = 15
  · rw [e1 e15]
  · rw [if_neg e15, if_neg e15]

end Go.Proofs.YtkailbdjilkneaaDoor
