/-
  Orders that are moved to other places; what orders let wait; what runs come to: plain functions.
-/
import Derived.Test.YtgofbkgfonlceacEffP
namespace Go.Proofs.Ytgofbkgfonlceac
open Go.RowKit

/-- An order that lets something wait. -/
def wtO (op : Int) : Bool := decide (op = 9) || decide (op = 11) || decide (op = 18)
theorem wtO_yes {op : Int} (h : wtO op = true) : op = 9 ∨ op = 11 ∨ op = 18 := by simpa [wtO, or_assoc] using h
theorem wtO_no {op : Int} (h : wtO op = false) : op ≠ 9 ∧ op ≠ 11 ∧ op ≠ 18 := by simpa [wtO, and_assoc] using h
/-- An order at its new place: the numbers that tell places tell the new ones. -/
structure MovO (pl : Nat → Nat) (op a b c op' a' b' c' : Int) : Prop where
  o : op' = op
  a : a' = if op = 14 then (pl a.toNat : Int) else a
  b : b' = if op = 15 then (pl b.toNat : Int) else b
  c : c' = c
theorem eff_mov {pl : Nat → Nat} {op a b c op' a' b' c' : Int} (h : MovO pl op a b c op' a' b' c') (pc : Nat) (rs : List Int) (rd : Int → Int) (fr : Int → Bool) (m : Nat) :
    effX (pl pc) rs rd fr m op' a' b' c' = (effX pc rs rd fr m op a b c).map fun x => (pl x.1, x.2) := by
  obtain ⟨rfl, rfl, rfl, rfl⟩ := h
  unfold effX
  rcases op_cases op' with h | rfl | rfl | rfl | rfl | rfl | rfl | rfl | rfl | rfl | rfl | rfl | rfl | rfl | rfl | rfl | rfl | rfl | rfl
  · repeat rw [if_neg (by omega)]
    rfl
  all_goals simp only [Int.reduceEq, ↓reduceIte, Option.map_some]
  all_goals first
    | rfl
    | (split <;> rfl)
/-- What an order puts into its thread's buffer. -/
def StoreOf (X : Nat → Nat → Nat → Int) (s : Sx) (t : Nat) (x : Wt) : Prop :=
  (opT X s t 0 = 9 ∧ x = ⟨false, opT X s t 1, getR s t (opT X s t 2)⟩) ∨
  (opT X s t 0 = 11 ∧ (0 ≤ getR s t (opT X s t 1) ∧ getR s t (opT X s t 1) < s.words.length) ∧ x = ⟨false, getR s t (opT X s t 1), getR s t (opT X s t 2)⟩) ∨
  (opT X s t 0 = 18 ∧ s.own.getD (opT X s t 1).toNat 0 = (t : Int) ∧ x = ⟨true, opT X s t 1, 0⟩)
def akOf (x : Wt) : Ak := if x.lk then .free x.wh else .put x.wh x.what
theorem act_ak {mode : Int} {s : Sx} {t : Nat} {x : Wt} (h : x.lk = true → x.what = 0) : actX mode s t (akOf x) = storeW mode s t x := by
  obtain ⟨l, w, v⟩ := x
  cases l with
  | false => rfl
  | true =>
    have : v = 0 := h rfl
    subst this
    rfl
theorem StoreOf.zero {X : Nat → Nat → Nat → Int} {s : Sx} {t : Nat} {x : Wt} (h : StoreOf X s t x) : x.lk = true → x.what = 0 := by
  rcases h with ⟨_, rfl⟩ | ⟨_, _, rfl⟩ | ⟨_, _, rfl⟩ <;> intro h <;> first | rfl | cases h
theorem StoreOf.wt {X : Nat → Nat → Nat → Int} {s : Sx} {t : Nat} {x : Wt} (h : StoreOf X s t x) : wtO (opT X s t 0) = true := by
  rcases h with ⟨h, _⟩ | ⟨h, _⟩ | ⟨h, _⟩ <;> rw [h] <;> rfl
theorem store_eff {X : Nat → Nat → Nat → Int} {s : Sx} {t : Nat} (ho : wtO (opT X s t 0) = true) :
    effT X s t = none ∨ ∃ x, StoreOf X s t x ∧ effT X s t = some ((thOf s t).pc + 1, (thOf s t).regs, akOf x) := by
  unfold effT effX
  rcases wtO_yes ho with h | h | h
  all_goals rw [h]
  all_goals simp only [Int.reduceEq, ↓reduceIte]
  · exact Or.inr ⟨_, Or.inl ⟨h, rfl⟩, rfl⟩
  · split
    · exact Or.inl rfl
    · rename_i h1
      exact Or.inr ⟨⟨false, getR s t (opT X s t 1), getR s t (opT X s t 2)⟩, Or.inr (Or.inl ⟨h, by unfold getR; omega, rfl⟩), rfl⟩
  · split
    · rename_i h1
      refine Or.inr ⟨⟨true, opT X s t 1, 0⟩, Or.inr (Or.inr ⟨h, ?_, rfl⟩), rfl⟩
      unfold freesW at h1
      simp only [Bool.and_eq_true, decide_eq_true_eq] at h1
      exact h1.1
    · exact Or.inl rfl
theorem StoreOf.eff {X : Nat → Nat → Nat → Int} {s : Sx} {t : Nat} {x : Wt} (h : StoreOf X s t x) (hw : (thOf s t).wait = []) : effT X s t = some ((thOf s t).pc + 1, (thOf s t).regs, akOf x) := by
  unfold effT effX
  rcases h with ⟨h, rfl⟩ | ⟨h, h1, rfl⟩ | ⟨h, h1, rfl⟩
  all_goals rw [h]
  all_goals simp only [Int.reduceEq, ↓reduceIte]
  · rfl
  · unfold getR at h1
    rw [if_neg (by omega)]
    rfl
  · have : freesW s t (opT X s t 1) = true := by
      unfold freesW
      rw [hw, h1]
      simp
    rw [this]
    rfl
/-- What another thread's order leaves of it. -/
theorem StoreOf.same {X : Nat → Nat → Nat → Int} {s r : Sx} {t : Nat} {x : Wt} (h : StoreOf X s t x) (ht : thOf r t = thOf s t) (hm : r.words.length = s.words.length) (ho : ∀ a, s.own.getD a 0 = (t : Int) → r.own.getD a 0 = (t : Int)) : StoreOf X r t x := by
  unfold StoreOf opT getR at *
  rw [ht, hm]
  rcases h with h | h | ⟨h1, h2, h3⟩
  · exact Or.inl h
  · exact Or.inr (Or.inl h)
  · exact Or.inr (Or.inr ⟨h1, ho _ h2, h3⟩)
/-- An order that lets nothing wait puts nothing into a buffer. -/
theorem eff_no {pc : Nat} {rs : List Int} {rd : Int → Int} {fr : Int → Bool} {m : Nat} {op a b c : Int} {p : Nat} {r : List Int} {k : Ak} (ho : wtO op = false) (h : effX pc rs rd fr m op a b c = some (p, r, k)) : (∀ a v, k ≠ .put a v) ∧ ∀ a, k ≠ .free a := by
  obtain ⟨h1, h2, h3⟩ := wtO_no ho
  refine ⟨fun y v e => ?_, fun y e => ?_⟩
  · subst e
    rcases eff_put h with ⟨h, _⟩ | ⟨h, _⟩
    · exact h1 h
    · exact h2 h
  · subst e
    exact h3 (eff_free h).1
theorem moves_nil {L : Nat → Nat} {X : Nat → Nat → Nat → Int} {mode : Int} {s : Sx} : movesX L X mode s = [] ↔ ∀ t, t < s.ths.length → ableT L X s t = false ∧ (thOf s t).wait = [] := by
  constructor
  · intro h t ht
    refine ⟨?_, Classical.byContradiction fun hne => mem_wait ht hne h⟩
    cases e : ableT L X s t with
    | false => rfl
    | true =>
      have := mem_order (mode := mode) ht e
      rw [h] at this
      cases this
  · intro h
    unfold movesX
    rw [List.flatMap_eq_nil_iff]
    intro t ht
    obtain ⟨h1, h2⟩ := h t (by simpa using ht)
    unfold movesT
    rw [h1, h2]
    rfl
theorem mem_first {L : Nat → Nat} {X : Nat → Nat → Nat → Int} {mode : Int} {s : Sx} {t : Nat} (ht : t < s.ths.length) (hw : (thOf s t).wait ≠ []) : (8 * (t : Int) + ((0 : Nat) : Int) + 1) ∈ movesX L X mode s := by
  unfold movesX
  rw [List.mem_flatMap]
  refine ⟨t, by simpa using ht, ?_⟩
  unfold movesT
  rw [List.mem_append, List.mem_map]
  refine Or.inr ⟨0, ?_, rfl⟩
  rw [List.mem_filter]
  exact ⟨by simpa using List.length_pos_iff.mpr hw, rfl⟩
theorem rch_ord {L : Nat → Nat} {X : Nat → Nat → Nat → Int} {mode : Int} {s0 s : Sx} (h : Rch (nxX L X mode) s0 s) {t : Nat} (ht : t < s.ths.length) (ha : ableT L X s t = true) (hf : (doX X mode s (8 * t)).fell = false) : Rch (nxX L X mode) s0 (doX X mode s (8 * t)) :=
  h.step (mem_nx.mpr ⟨8 * (t : Int), mem_order ht ha, do_nat, hf⟩)
theorem rch_fin {L : Nat → Nat} {X : Nat → Nat → Nat → Int} {mode : Int} {s0 s : Sx} (h : Rch (nxX L X mode) s0 s) {t : Nat} (ht : t < s.ths.length) (hw : (thOf s t).wait ≠ []) (hf : s.fell = false) : Rch (nxX L X mode) s0 (doX X mode s (8 * t + 0 + 1)) :=
  h.step (mem_nx.mpr ⟨_, mem_first ht hw, by rw [show (8 * (t : Int) + ((0 : Nat) : Int) + 1).toNat = 8 * t + 0 + 1 by omega], (fell_wait (k := 0) (by omega)).trans hf⟩)
theorem outs_end {L : Nat → Nat} {X : Nat → Nat → Nat → Int} {mode : Int} {s : Sx} (h : movesX L X mode s = []) : (⟨if endedX L s then 0 else 2, s.words, s.prints⟩ : Oc) ∈ outsX L X mode s := by
  unfold outsX
  rw [if_pos h, List.mem_append]
  exact Or.inl (by simp)
theorem outs_fall {L : Nat → Nat} {X : Nat → Nat → Nat → Int} {mode : Int} {s : Sx} {t : Nat} (ht : t < s.ths.length) (ha : ableT L X s t = true) (he : effT X s t = none) : (⟨1, [], s.prints⟩ : Oc) ∈ outsX L X mode s := by
  unfold outsX
  rw [List.mem_append, List.mem_filterMap]
  refine Or.inr ⟨8 * (t : Int), mem_order ht ha, ?_⟩
  rw [do_nat, do_eff ht (fun e => able_13 ha (Or.inr (Or.inl e))), he]
  rfl
/-- What runs come to: none can go on, or one falls. -/
theorem outs_cases {L : Nat → Nat} {X : Nat → Nat → Nat → Int} {mode : Int} {s : Sx} (hf : s.fell = false) (hwl : ∀ t, t < s.ths.length → (thOf s t).wait.length ≤ 3) {o : Oc} (h : o ∈ outsX L X mode s) :
    (movesX L X mode s = [] ∧ o = ⟨if endedX L s then 0 else 2, s.words, s.prints⟩) ∨ ∃ t, t < s.ths.length ∧ ableT L X s t = true ∧ effT X s t = none ∧ o = ⟨1, [], s.prints⟩ := by
  unfold outsX at h
  rw [List.mem_append] at h
  rcases h with h | h
  · by_cases e : movesX L X mode s = []
    · rw [if_pos e] at h
      exact Or.inl ⟨e, by simpa using h⟩
    · rw [if_neg e] at h; cases h
  · rw [List.mem_filterMap] at h
    obtain ⟨mv, hmv, ho⟩ := h
    split at ho
    · rename_i hfe
      cases ho
      rcases movesX_mem hmv with ⟨t, ht, rfl, ha⟩ | ⟨t, k, ht, hk2, rfl, hmay⟩
      · have e13 : opT X s t 0 = 13 → (thOf s t).wait = [] := fun e => able_13 ha (Or.inr (Or.inl e))
        rw [do_nat, do_eff ht e13] at hfe ⊢
        rw [eff_fell hf] at hfe
        have heff : effT X s t = none := by
          cases e : effT X s t with
          | none => rfl
          | some q => rw [e] at hfe; cases hfe
        refine Or.inr ⟨t, ht, ha, heff, ?_⟩
        rw [heff]
        rfl
      · have hk3 := hwl t ht
        rw [show (8 * (t : Int) + (k : Int) + 1).toNat = 8 * t + k + 1 by omega, fell_wait (by omega), hf] at hfe
        cases hfe
    · cases ho
/-- What a state can become: a thread does its order, or one that waits is done. -/
theorem nx_cases {L : Nat → Nat} {X : Nat → Nat → Nat → Int} {mode : Int} {s r : Sx} (hf : s.fell = false) (hwl : ∀ t, t < s.ths.length → (thOf s t).wait.length ≤ 3) (h : r ∈ nxX L X mode s) :
    (∃ t p rs k, t < s.ths.length ∧ ableT L X s t = true ∧ effT X s t = some (p, rs, k) ∧ r = actX mode (setTh s t ⟨p, rs, (thOf s t).wait⟩) t k) ∨
    ∃ t k, t < s.ths.length ∧ k < (thOf s t).wait.length ∧ mayW mode (thOf s t).wait k = true ∧ r = setTh (doneW s ((thOf s t).wait.getD k default)) t { thOf s t with wait := (thOf s t).wait.eraseIdx k } := by
  obtain ⟨mv, hmv, rfl, hfe⟩ := mem_nx.mp h
  rcases movesX_mem hmv with ⟨t, ht, rfl, ha⟩ | ⟨t, k, ht, hk2, rfl, hmay⟩
  · have e13 : opT X s t 0 = 13 → (thOf s t).wait = [] := fun e => able_13 ha (Or.inr (Or.inl e))
    rw [do_nat, do_eff ht e13] at hfe ⊢
    rw [eff_fell hf] at hfe
    cases e : effT X s t with
    | none => rw [e] at hfe; cases hfe
    | some q =>
      obtain ⟨p, rs, k⟩ := q
      exact Or.inl ⟨t, p, rs, k, ht, ha, e, rfl⟩
  · have hk3 := hwl t ht
    refine Or.inr ⟨t, k, ht, hk2, hmay, ?_⟩
    rw [show (8 * (t : Int) + (k : Int) + 1).toNat = 8 * t + k + 1 by omega, doX_wait (by omega)]
/-- A step by a thread's order. -/
theorem rch_eff {L : Nat → Nat} {X : Nat → Nat → Nat → Int} {mode : Int} {s0 s : Sx} (h : Rch (nxX L X mode) s0 s) (hf : s.fell = false) {t : Nat} (ht : t < s.ths.length) (ha : ableT L X s t = true) {p : Nat} {rs : List Int} {k : Ak} (he : effT X s t = some (p, rs, k)) : Rch (nxX L X mode) s0 (actX mode (setTh s t ⟨p, rs, (thOf s t).wait⟩) t k) := by
  have e1 := do_eff (mode := mode) ht (fun e => able_13 ha (Or.inr (Or.inl e)))
  rw [he] at e1
  have := rch_ord h ht ha (by rw [e1, eff_fell hf]; rfl)
  rw [e1] at this
  exact this

end Go.Proofs.Ytgofbkgfonlceac
