/-
  A program that is being read: its threads' orders in slices of the call's own, each in a block of its own.
-/
import Derived.Test.YthbebnegmenejaaGreatDoorNames
import Derived.Deep.AppendLies
namespace Go.Proofs.YthbebnegmenejaaGreatDoor
open Go.RowKit

abbrev I4 := Int × Int × Int × Int
def cells4 (x : I4) : List Value := [.int .i64 x.1, .int .i64 x.2.1, .int .i64 x.2.2.1, .int .i64 x.2.2.2]
def cellsT (l : List I4) : List Value := l.flatMap cells4
abbrev nilS : Value := .slice none 0 0

theorem cellsT_len (l : List I4) : (cellsT l).length = l.length * 4 := by
  induction l with
  | nil => rfl
  | cons x r ih => simp [cellsT, cells4] at ih ⊢; omega
theorem cellsT_snoc (l : List I4) (x : I4) : cellsT (l ++ [x]) = cellsT l ++ cells4 x := by simp [cellsT]

theorem lt_of_owns {w : World} {B : Nat} {e : TypeId} {size : Nat} {v : Value} {n : Nat} {xs : List Value} (h : w.ownsRow B e size v n xs) {g : Nat} (hg : v.ownBlock = some g) : g < w.heap.size := (h.lt g hg).2

theorem owns_set {w : World} {B : Nat} {e : TypeId} {g n cap i : Nat} {xs : List Value} {u : Value} (h : w.ownsRow B e 1 (.slice (some ⟨g, 0, none⟩) n cap) n xs) : (w.setCell ⟨g, i, none⟩ u).ownsRow B e 1 (.slice (some ⟨g, 0, none⟩) n cap) n (xs.set i u) := by
  refine ⟨by simp [h.1], ?_⟩
  rcases h.2 with ⟨h0, _⟩ | ⟨g', cap', cur, hv, hg, hh, h1, h2, h3, h4⟩
  · simp at h0
  · simp only [Value.slice.injEq, Option.some.injEq, Addr.mk.injEq, and_true, true_and] at hv
    obtain ⟨rfl, rfl⟩ := hv
    refine Or.inr ⟨g, cap, cur.setIfInBounds i u, rfl, hg, ?_, h1, h2, by simp [h3], ?_⟩
    · simp only [World.setCell, Array.getElem?_modify, if_true, hh, Option.map_some]
      rfl
    · rw [Array.toList_setIfInBounds, List.take_set, h4]
theorem owns_far {w : World} {B : Nat} {e : TypeId} {size : Nat} {v : Value} {n : Nat} {xs : List Value} (h : w.ownsRow B e size v n xs) {a : Addr} {u : Value} (hne : v.ownBlock ≠ some a.block) : (w.setCell a u).ownsRow B e size v n xs := by
  refine ⟨h.1, ?_⟩
  rcases h.2 with h0 | ⟨g, cap, cur, hv, hg, hh, r⟩
  · exact Or.inl h0
  · refine Or.inr ⟨g, cap, cur, hv, hg, ?_, r⟩
    rw [Below.heap_setCell _ _ _ _ (fun e => hne (by rw [hv]; simp [Value.ownBlock, e]))]
    exact hh

structure Built (w : World) (B : Nat) (cv wv : Value) (tv : List Value) (ths : List (List I4)) (wds : List Int) : Prop where
  code : w.ownsRow B 37 1 cv ths.length tv
  thr : ∀ t, t < ths.length → w.ownsRow B 46 4 (tv.getD t nilS) (ths.getD t []).length (cellsT (ths.getD t []))
  words : w.ownsRow B 3 1 wv wds.length (wds.map (Value.int .i64))
  s1 : ∀ t g, t < ths.length → (tv.getD t nilS).ownBlock = some g → cv.ownBlock ≠ some g
  s2 : ∀ t u g, t < ths.length → u < ths.length → t ≠ u → (tv.getD t nilS).ownBlock = some g → (tv.getD u nilS).ownBlock ≠ some g
  s3 : ∀ g, wv.ownBlock = some g → cv.ownBlock ≠ some g ∧ ∀ t, t < ths.length → (tv.getD t nilS).ownBlock ≠ some g

theorem built_start (w : World) (B : Nat) : Built w B nilS nilS [] [] [] :=
  ⟨World.ownsRow_nil _ _ _ _, fun t h => absurd h (Nat.not_lt_zero _), World.ownsRow_nil _ _ _ _, fun t g h => absurd h (Nat.not_lt_zero _), fun t u g h => absurd h (Nat.not_lt_zero _), fun g h => by simp [Value.ownBlock] at h⟩

section
variable {w w' : World} {B : Nat} {cv wv : Value} {tv : List Value} {ths : List (List I4)} {wds : List Int}

theorem Built.below (h : Built w B cv wv tv ths wds) (hb : Below w.heap.size w w') : Built w' B cv wv tv ths wds :=
  ⟨owns_below2 h.code hb, fun t ht => owns_below2 (h.thr t ht) hb, owns_below2 h.words hb, h.s1, h.s2, h.s3⟩
/-- A store below the rows. -/
theorem Built.store (h : Built w B cv wv tv ths wds) {a : Addr} (ha : a.block < B) (u : Value) : Built (w.setCell a u) B cv wv tv ths wds :=
  ⟨ownsRow_setCell_below h.code ha u, fun t ht => ownsRow_setCell_below (h.thr t ht) ha u, ownsRow_setCell_below h.words ha u, h.s1, h.s2, h.s3⟩
theorem Built.tv_len (h : Built w B cv wv tv ths wds) : tv.length = ths.length := by have := h.code.1; omega

/-- The words' numbers are laid in: they lie in new memory. -/
theorem Built.setWords (h : Built w B cv wv tv ths wds) {v : Value} {vs : List Int} {B' : Nat} (hv : w.ownsRow B' 3 1 v vs.length (vs.map (Value.int .i64))) (hB : B ≤ B') (hc : ∀ g, cv.ownBlock = some g → g < B') (ht : ∀ t g, t < ths.length → (tv.getD t nilS).ownBlock = some g → g < B') : Built w B cv v tv ths vs :=
  ⟨h.code, h.thr, Go.Joins.ownsRow_le hv hB, h.s1, h.s2, fun g hg => by
    have hlt := (hv.lt g hg).1
    exact ⟨fun e => absurd (hc g e) (by omega), fun t ht' e => absurd (ht t g ht' e) (by omega)⟩⟩

/-- One thread more, without orders. -/
theorem Built.thread (h : Built w B cv wv tv ths wds) {g cap H : Nat} {w1 : World} (hown : w1.ownsRow B 37 1 (.slice (some ⟨g, 0, none⟩) (ths.length + 1) cap) (ths.length + 1) (tv ++ [nilS])) (hgrow : w.grownBy w1 cv.ownBlock) (hat : cv.ownBlock = some g ∨ g = H) (hH : w.heap.size ≤ H) :
    Built w1 B (.slice (some ⟨g, 0, none⟩) (ths.length + 1) cap) wv (tv ++ [nilS]) (ths ++ [[]]) wds := by
  have hl := h.tv_len
  have e1 : ∀ t, t < ths.length → (tv ++ [nilS]).getD t nilS = tv.getD t nilS ∧ (ths ++ [[]]).getD t [] = ths.getD t [] := fun t ht => by
    simp [List.getD, List.getElem?_append_left (show t < tv.length by omega), List.getElem?_append_left ht]
  have e2 : (tv ++ [nilS]).getD ths.length nilS = nilS ∧ (ths ++ [[]]).getD ths.length [] = [] := by
    simp [List.getD, ← hl]
  have new : ∀ t k, t < ths.length → (tv.getD t nilS).ownBlock = some k → k ≠ g := fun t k ht hk e => by
    have h1 := lt_of_owns (h.thr t ht) hk
    rcases hat with h2 | h2
    · exact h.s1 t k ht hk (by rw [h2, e])
    · omega
  refine ⟨by simpa using hown, ?_, ?_, ?_, ?_, ?_⟩
  · intro t ht
    simp at ht
    rcases Nat.lt_or_ge t ths.length with h1 | h1
    · rw [(e1 t h1).1, (e1 t h1).2]
      refine (h.thr t h1).kept hgrow ?_
      cases hk : (tv.getD t nilS).ownBlock with
      | none => exact Or.inl rfl
      | some k => exact Or.inr (fun e => h.s1 t k h1 hk e.symm)
    · obtain rfl : t = ths.length := by omega
      rw [e2.1, e2.2]
      exact World.ownsRow_nil _ _ _ _
  · refine h.words.kept hgrow ?_
    cases hk : wv.ownBlock with
    | none => exact Or.inl rfl
    | some k => exact Or.inr (fun e => (h.s3 k hk).1 e.symm)
  · intro t k ht hk
    simp at ht
    rcases Nat.lt_or_ge t ths.length with h1 | h1
    · rw [(e1 t h1).1] at hk
      simp only [Value.ownBlock]
      exact fun e => new t k h1 hk (by simpa using e.symm)
    · obtain rfl : t = ths.length := by omega
      rw [e2.1] at hk; simp [Value.ownBlock] at hk
  · intro t u k ht hu hne hk
    simp at ht hu
    rcases Nat.lt_or_ge t ths.length with h1 | h1
    · rw [(e1 t h1).1] at hk
      rcases Nat.lt_or_ge u ths.length with h2 | h2
      · rw [(e1 u h2).1]; exact h.s2 t u k h1 h2 hne hk
      · obtain rfl : u = ths.length := by omega
        rw [e2.1]; simp [Value.ownBlock]
    · obtain rfl : t = ths.length := by omega
      rw [e2.1] at hk; simp [Value.ownBlock] at hk
  · intro k hk
    refine ⟨?_, ?_⟩
    · simp only [Value.ownBlock]
      intro e
      have hkg : g = k := by simpa using e
      have h1 := lt_of_owns h.words hk
      rcases hat with h2 | h2
      · exact (h.s3 k hk).1 (by rw [h2, hkg])
      · omega
    · intro t ht
      simp at ht
      rcases Nat.lt_or_ge t ths.length with h1 | h1
      · rw [(e1 t h1).1]; exact (h.s3 k hk).2 t h1
      · obtain rfl : t = ths.length := by omega
        rw [e2.1]; simp [Value.ownBlock]

/-- One order more, in the last thread. -/
theorem Built.order {gc n cap : Nat} (h : Built w B (.slice (some ⟨gc, 0, none⟩) n cap) wv tv ths wds) {p : Nat} (hp : p + 1 = ths.length) {g cap' H : Nat} {w1 : World} {x : I4}
    (hown : w1.ownsRow B 46 4 (.slice (some ⟨g, 0, none⟩) ((ths.getD p []).length + 1) cap') ((ths.getD p []).length + 1) (cellsT (ths.getD p []) ++ cells4 x)) (hgrow : w.grownBy w1 (tv.getD p nilS).ownBlock)
    (hat : (tv.getD p nilS).ownBlock = some g ∨ g = H) (hH : w.heap.size ≤ H) :
    Built (w1.setCell ⟨gc, p, none⟩ (.slice (some ⟨g, 0, none⟩) ((ths.getD p []).length + 1) cap')) B (.slice (some ⟨gc, 0, none⟩) n cap) wv (tv.set p (.slice (some ⟨g, 0, none⟩) ((ths.getD p []).length + 1) cap')) (ths.set p (ths.getD p [] ++ [x])) wds := by
  have hl := h.tv_len
  have hpl : p < ths.length := by omega
  obtain ⟨th, hth⟩ : ∃ th : Value, th = .slice (some ⟨g, 0, none⟩) ((ths.getD p []).length + 1) cap' := ⟨_, rfl⟩
  have hthb : th.ownBlock = some g := by rw [hth]; rfl
  rw [← hth] at hown ⊢
  have hn : n = ths.length := by
    rcases h.code.2 with ⟨h0, _⟩ | ⟨_, _, _, hv, _⟩
    · simp at h0
    · simp only [Value.slice.injEq] at hv; exact hv.2.1
  have hgc : gc < w.heap.size := lt_of_owns h.code rfl
  have hgg : g ≠ gc := fun e => by
    rcases hat with h2 | h2
    · exact h.s1 p g hpl h2 (by rw [e]; rfl)
    · omega
  have e1 : ∀ t, t ≠ p → (tv.set p th).getD t nilS = tv.getD t nilS ∧ (ths.set p (ths.getD p [] ++ [x])).getD t [] = ths.getD t [] := fun t ht => by
    simp [List.getD, List.getElem?_set_ne (fun e => ht e.symm)]
  have e2 : (tv.set p th).getD p nilS = th ∧ (ths.set p (ths.getD p [] ++ [x])).getD p [] = ths.getD p [] ++ [x] := by
    simp [List.getD, List.getElem?_set_self (show p < tv.length by omega), List.getElem?_set_self hpl]
  have new : ∀ t k, t < ths.length → t ≠ p → (tv.getD t nilS).ownBlock = some k → k ≠ g := fun t k ht hne hk e => by
    have h1 := lt_of_owns (h.thr t ht) hk
    rcases hat with h2 | h2
    · exact h.s2 t p k ht hpl hne hk (by rw [h2, e])
    · omega
  have far : ∀ t, t < ths.length → t ≠ p → (tv.getD t nilS).ownBlock = none ∨ (tv.getD t nilS).ownBlock ≠ (tv.getD p nilS).ownBlock := fun t ht hne => by
    cases hk : (tv.getD t nilS).ownBlock with
    | none => exact Or.inl rfl
    | some k => exact Or.inr (fun e => h.s2 t p k ht hpl hne hk e.symm)
  refine ⟨?_, ?_, ?_, ?_, ?_, ?_⟩
  · have hc : w1.ownsRow B 37 1 (.slice (some ⟨gc, 0, none⟩) n cap) ths.length tv := h.code.kept hgrow (Or.inr (fun e => h.s1 p gc hpl e.symm rfl))
    rw [← hn] at hc
    have := owns_set (i := p) (u := th) hc
    simpa [hn] using this
  · intro t ht
    simp at ht
    by_cases hne : t = p
    · subst hne
      rw [e2.1, e2.2, List.length_append, cellsT_snoc]
      exact owns_far hown (by rw [hthb]; simpa using hgg)
    · rw [(e1 t hne).1, (e1 t hne).2]
      refine owns_far ((h.thr t ht).kept hgrow (far t ht hne)) ?_
      intro e
      exact h.s1 t gc ht e rfl
  · refine owns_far (h.words.kept hgrow ?_) ?_
    · cases hk : wv.ownBlock with
      | none => exact Or.inl rfl
      | some k => exact Or.inr (fun e => (h.s3 k hk).2 p hpl e.symm)
    · intro e
      exact (h.s3 gc e).1 rfl
  · intro t k ht hk
    simp at ht
    by_cases hne : t = p
    · subst hne
      rw [e2.1, hthb] at hk
      have : g = k := by simpa using hk
      subst this
      simp only [Value.ownBlock]
      intro e; exact hgg (by simpa using e.symm)
    · rw [(e1 t hne).1] at hk
      exact h.s1 t k ht hk
  · intro t u k ht hu hne hk
    simp at ht hu
    by_cases h1 : t = p
    · subst h1
      rw [e2.1, hthb] at hk
      have : g = k := by simpa using hk
      subst this
      rw [(e1 u (fun e => hne e.symm)).1]
      intro e
      exact new u g hu (fun e => hne e.symm) e rfl
    · rw [(e1 t h1).1] at hk
      by_cases h2 : u = p
      · subst h2
        rw [e2.1, hthb]
        intro e
        exact new t k ht h1 hk (by simpa using e.symm)
      · rw [(e1 u h2).1]
        exact h.s2 t u k ht hu hne hk
  · intro k hk
    refine ⟨(h.s3 k hk).1, ?_⟩
    intro t ht
    simp at ht
    by_cases hne : t = p
    · subst hne
      rw [e2.1, hthb]
      intro e
      have hkg : g = k := by simpa using e
      have h1 := lt_of_owns h.words hk
      rcases hat with h2 | h2
      · exact (h.s3 k hk).2 t hpl (by rw [h2, hkg])
      · omega
    · rw [(e1 t hne).1]; exact (h.s3 k hk).2 t ht
end

end Go.Proofs.YthbebnegmenejaaGreatDoor
