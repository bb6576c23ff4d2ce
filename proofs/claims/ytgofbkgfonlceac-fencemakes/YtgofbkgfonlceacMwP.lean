/-
  Where something may wait: spots that are gone through, plain functions.
-/
import Derived.Test.YtgofbkgfonlceacFenL
namespace Go.Proofs.Ytgofbkgfonlceac
open Go.RowKit

abbrev Sp := Nat × Bool
/-- Does something wait behind an order? -/
def wbO (op : Int) (w : Bool) : Bool := wtO op || (w && !awO op)
/-- Spots that can be come to from one. -/
def nextS (X : Nat → Nat → Int) (s : Sp) : List Sp := (nextO (X s.1 0) (X s.1 1) (X s.1 2) s.1).map fun j => (j, wbO (X s.1 0) s.2)
/-- What holds while spots are gone through: K known, O open. -/
structure MwP (L : Nat) (X : Nat → Nat → Int) (K O : List Sp) : Prop where
  nodup : K.Nodup
  kl : ∀ s, s ∈ K → s.1 < L
  ol : ∀ s, s ∈ O → s.1 ≤ L
  way : ∀ s, s ∈ K ∨ s ∈ O → Way L X s.1 s.2
  start : (0, false) ∈ K ∨ (0, false) ∈ O ∨ L = 0
  closed : ∀ s, s ∈ K → ∀ q, q ∈ nextS X s → q ∈ K ∨ q ∈ O ∨ q.1 = L
section
variable {L : Nat} {X : Nat → Nat → Int} {K O : List Sp}
theorem MwP.begin (L : Nat) (X : Nat → Nat → Int) : MwP L X [] [(0, false)] :=
  ⟨List.nodup_nil, fun s h => (by cases h), fun s h => (by rw [List.mem_singleton.mp h]; exact Nat.zero_le _), fun s h => (by
    rcases h with h | h
    · cases h
    · rw [List.mem_singleton.mp h]; exact .base), Or.inr (Or.inl (by simp)), fun s h => (by cases h)⟩
theorem MwP.skip {s : Sp} (h : MwP L X K (O ++ [s])) (hs : s ∈ K ∨ s.1 = L) : MwP L X K O := by
  have key : ∀ q, q ∈ K ∨ q ∈ O ++ [s] ∨ q.1 = L → q ∈ K ∨ q ∈ O ∨ q.1 = L := fun q hq => by
    rcases hq with h1 | h1 | h1
    · exact Or.inl h1
    · rcases List.mem_append.mp h1 with h2 | h2
      · exact Or.inr (Or.inl h2)
      · rw [List.mem_singleton.mp h2]
        exact hs.elim Or.inl (fun e => Or.inr (Or.inr e))
    · exact Or.inr (Or.inr h1)
  refine ⟨h.nodup, h.kl, fun q hq => h.ol q (by simp [hq]), fun q hq => h.way q (hq.imp id (fun x => by simp [x])), ?_, fun q hq r hr => key r (h.closed q hq r hr)⟩
  have := key (0, false) (by
    rcases h.start with h1 | h1 | h1
    · exact Or.inl h1
    · exact Or.inr (Or.inl h1)
    · exact Or.inr (Or.inr h1.symm))
  rcases this with h1 | h1 | h1
  · exact Or.inl h1
  · exact Or.inr (Or.inl h1)
  · exact Or.inr (Or.inr h1.symm)
theorem MwP.more {s : Sp} (h : MwP L X K (O ++ [s])) (hs : s ∉ K) (hl : s.1 < L) (hn : ∀ j, j ∈ nextO (X s.1 0) (X s.1 1) (X s.1 2) s.1 → j ≤ L) : MwP L X (s :: K) (O ++ nextS X s) := by
  have hw : Way L X s.1 s.2 := h.way s (Or.inr (by simp))
  have key : ∀ q, q ∈ K ∨ q ∈ O ++ [s] ∨ q.1 = L → q ∈ s :: K ∨ q ∈ O ++ nextS X s ∨ q.1 = L := fun q hq => by
    rcases hq with h1 | h1 | h1
    · exact Or.inl (by simp [h1])
    · rcases List.mem_append.mp h1 with h2 | h2
      · exact Or.inr (Or.inl (by simp [h2]))
      · exact Or.inl (by rw [List.mem_singleton.mp h2]; simp)
    · exact Or.inr (Or.inr h1)
  have hnx : ∀ q, q ∈ nextS X s → q.1 ≤ L ∧ Way L X q.1 q.2 := fun q hq => by
    obtain ⟨j, hj, rfl⟩ := List.mem_map.mp hq
    exact ⟨hn j hj, hw.step hl hj⟩
  refine ⟨List.nodup_cons.mpr ⟨hs, h.nodup⟩, fun q hq => ?_, fun q hq => ?_, fun q hq => ?_, ?_, fun q hq r hr => ?_⟩
  · rcases List.mem_cons.mp hq with rfl | h1
    · exact hl
    · exact h.kl q h1
  · rcases List.mem_append.mp hq with h1 | h1
    · exact h.ol q (by simp [h1])
    · exact (hnx q h1).1
  · rcases hq with h1 | h1
    · rcases List.mem_cons.mp h1 with rfl | h2
      · exact hw
      · exact h.way q (Or.inl h2)
    · rcases List.mem_append.mp h1 with h2 | h2
      · exact h.way q (Or.inr (by simp [h2]))
      · exact (hnx q h2).2
  · have := key (0, false) (by
      rcases h.start with h1 | h1 | h1
      · exact Or.inl h1
      · exact Or.inr (Or.inl h1)
      · exact Or.inr (Or.inr h1.symm))
    rcases this with h1 | h1 | h1
    · exact Or.inl h1
    · exact Or.inr (Or.inl h1)
    · exact Or.inr (Or.inr h1.symm)
  · rcases List.mem_cons.mp hq with rfl | h1
    · exact Or.inr (Or.inl (by simp [hr]))
    · exact key r (h.closed q h1 r hr)
/-- Behind the last: all that can be come to is known. -/
theorem MwP.all (h : MwP L X K []) {i : Nat} {w : Bool} (hw : Way L X i w) : i < L → (i, w) ∈ K := by
  induction hw with
  | base =>
    intro hi
    rcases h.start with h1 | h1 | h1
    · exact h1
    · cases h1
    · omega
  | @step i j w _ hi hj ih =>
    intro hl
    rcases h.closed (i, w) (ih hi) (j, wbO (X i 0) w) (List.mem_map.mpr ⟨j, hj, rfl⟩) with h1 | h1 | h1
    · exact h1
    · cases h1
    · simp only at h1; omega
theorem MwP.iff (h : MwP L X K []) {i : Nat} {w : Bool} (hi : i < L) : (i, w) ∈ K ↔ Way L X i w := ⟨fun hk => h.way _ (Or.inl hk), fun hw => h.all hw hi⟩
/-- There are two spots an order. -/
theorem MwP.len (h : MwP L X K O) : K.length ≤ 2 * L := by
  have : K.length ≤ ((List.range L).flatMap fun i => [(i, false), (i, true)]).length := nodup_len h.nodup fun s hs => by
    rw [List.mem_flatMap]
    refine ⟨s.1, by simpa using h.kl s hs, ?_⟩
    obtain ⟨i, w⟩ := s
    cases w <;> simp
  have e : ∀ n, ((List.range n).flatMap fun i => [(i, false), (i, true)]).length = 2 * n := fun n => by
    induction n with
    | zero => rfl
    | succ n ih =>
      rw [List.range_succ, List.flatMap_append, List.length_append, ih]
      simp
      omega
  rw [e] at this
  exact this
theorem next_len (X : Nat → Nat → Int) (s : Sp) : (nextS X s).length ≤ 2 := by
  unfold nextS nextO
  rw [List.length_map]
  split
  · simp
  · split <;> simp
end
/-- Of each order whether something may wait ahead of it, as far as is known. -/
def wsL (L : Nat) (K : List Sp) : List Bool := (List.range L).map fun i => decide ((i, true) ∈ K)
theorem ws_len (L : Nat) (K : List Sp) : (wsL L K).length = L := by simp [wsL]
theorem ws_at {L : Nat} {K : List Sp} {i : Nat} (h : i < L) : (wsL L K)[i]? = some (decide ((i, true) ∈ K)) := by simp [wsL, h]
theorem ws_set {L : Nat} {K : List Sp} {s : Sp} (h : s.1 < L) : (wsL L K).set s.1 (decide ((s.1, true) ∈ K) || s.2) = wsL L (s :: K) := by
  apply List.ext_getElem?
  intro i
  by_cases hi : i < L
  · rw [ws_at hi]
    by_cases e : s.1 = i
    · subst e
      rw [List.getElem?_set_self (by rw [ws_len]; exact h)]
      congr 1
      obtain ⟨j, w⟩ := s
      cases w
      · simp
      · simp
    · rw [List.getElem?_set_ne e, ws_at hi]
      congr 1
      obtain ⟨j, w⟩ := s
      simp only at e
      rw [decide_eq_decide, List.mem_cons]
      exact ⟨Or.inr, fun h => h.elim (fun h => absurd (congrArg Prod.fst h).symm e) id⟩
  · rw [List.getElem?_eq_none (by simp [ws_len]; omega), List.getElem?_eq_none (by rw [ws_len]; omega)]

end Go.Proofs.Ytgofbkgfonlceac
