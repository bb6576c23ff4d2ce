/-
  Without clashes what waits cannot be seen: what waits, and the states without it that go with a state with it. Plain functions.
  Without clashes what waits cannot be seen: each outcome with stores that wait, in order or passing each other, is one without. Plain functions.
  Orders that are moved to other places; what orders let wait; what runs come to: plain functions.
-/
import Derived.Test.YtefnmbnakphhfadReachP
import Derived.Test.YtefnmbnakphhfadRDoW
namespace Go.Proofs.Ytefnmbnakphhfad
section
open Go.RowKit

/-! What waits, and what it makes of words and locks. -/
/-- Does one that waits say what a word becomes? -/
def hitW (w : Int) (x : Wt) : Bool := !x.lk && decide (x.wh = w)
/-- What the last one says that a word becomes. -/
def lastI (l : List Wt) (w : Int) : Option Int := (l.reverse.find? (hitW w)).map fun x => x.what
theorem lastI_append (l r : List Wt) (w : Int) : lastI (l ++ r) w = (lastI r w).or (lastI l w) := by
  unfold lastI
  rw [List.reverse_append, List.find?_append]
  cases r.reverse.find? (hitW w) <;> rfl
theorem lastI_cons (x : Wt) (l : List Wt) (w : Int) : lastI (x :: l) w = (lastI l w).or (if hitW w x then some x.what else none) := by
  rw [show x :: l = [x] ++ l from rfl, lastI_append]
  unfold lastI
  show _ = _
  simp only [List.reverse_cons, List.reverse_nil, List.nil_append, List.find?_cons, List.find?_nil]
  cases hitW w x <;> rfl
theorem finds_last (s : Sx) (t : Nat) (w : Int) : findsW s t w = (lastI (thOf s t).wait w).getD (s.words.getD w.toNat 0) := by
  unfold findsW lastI hitW
  cases (thOf s t).wait.reverse.find? fun x => !x.lk && decide (x.wh = w) <;> rfl
/-! Those that were put into a buffer; some of them are done already. -/
section
variable {n m lk rg : Nat} {L : Nat → Nat} {X : Nat → Nat → Nat → Int} {mode : Int} {s0 s : Sx} {B : List Int} {g : Nat → List (Wt × Bool)}
end
section
variable {n m lk rg : Nat} {L : Nat → Nat} {X : Nat → Nat → Nat → Int} {mode : Int} {s0 s A : Sx} {B : List Int} {I : Nat → List Wt} {u : Nat}
end
theorem eff_free {pc : Nat} {rs : List Int} {rd : Int → Int} {fr : Int → Bool} {m : Nat} {op a b c : Int} {p : Nat} {r : List Int} {y : Int} (h : effX pc rs rd fr m op a b c = some (p, r, .free y)) : op = 18 ∧ a = y := by
  unfold effX at h
  rcases op_cases op with h1 | rfl | rfl | rfl | rfl | rfl | rfl | rfl | rfl | rfl | rfl | rfl | rfl | rfl | rfl | rfl | rfl | rfl | rfl
  · repeat rw [if_neg (by omega)] at h
    cases h
  all_goals simp only [Int.reduceEq, ↓reduceIte] at h
  all_goals (repeat' split at h)
  all_goals first
    | (cases h; done)
    | skip
  · cases h; exact ⟨rfl, rfl⟩
theorem eff_take {pc : Nat} {rs : List Int} {rd : Int → Int} {fr : Int → Bool} {m : Nat} {op a b c : Int} {p : Nat} {r : List Int} {y : Int} (h : effX pc rs rd fr m op a b c = some (p, r, .take y)) : op = 17 ∧ a = y := by
  unfold effX at h
  rcases op_cases op with h1 | rfl | rfl | rfl | rfl | rfl | rfl | rfl | rfl | rfl | rfl | rfl | rfl | rfl | rfl | rfl | rfl | rfl | rfl
  · repeat rw [if_neg (by omega)] at h
    cases h
  all_goals simp only [Int.reduceEq, ↓reduceIte] at h
  all_goals (repeat' split at h)
  all_goals first
    | (cases h; done)
    | skip
  · cases h; exact ⟨rfl, rfl⟩
end

section
open Go.RowKit

theorem mem_order {L : Nat → Nat} {X : Nat → Nat → Nat → Int} {mode : Int} {s : Sx} {t : Nat} (ht : t < s.ths.length) (ha : ableT L X s t = true) : (8 * (t : Int)) ∈ movesX L X mode s := by
  unfold movesX
  rw [List.mem_flatMap]
  refine ⟨t, by simpa using ht, ?_⟩
  unfold movesT
  rw [ha]
  simp
theorem do_nat {X : Nat → Nat → Nat → Int} {mode : Int} {s : Sx} {t : Nat} : doX X mode s (8 * (t : Int)).toNat = doX X mode s (8 * t) := by
  rw [show (8 * (t : Int)).toNat = 8 * t by omega]
theorem able_13 {L : Nat → Nat} {X : Nat → Nat → Nat → Int} {s : Sx} {t : Nat} (ha : ableT L X s t = true) (ho : opT X s t 0 = 12 ∨ opT X s t 0 = 13 ∨ opT X s t 0 = 17) : (thOf s t).wait = [] := by
  unfold ableT at ha
  split at ha
  · cases ha
  · rw [if_neg (by omega)] at ha
    rcases ho with e | e | e
    · rw [if_pos (Or.inl e)] at ha
      exact List.length_eq_zero_iff.mp (by simpa using ha)
    · rw [if_pos (Or.inr e)] at ha
      exact List.length_eq_zero_iff.mp (by simpa using ha)
    · rw [if_neg (by omega), if_pos e] at ha
      simp only [Bool.and_eq_true, decide_eq_true_eq] at ha
      exact List.length_eq_zero_iff.mp ha.1
theorem able_17 {L : Nat → Nat} {X : Nat → Nat → Nat → Int} {s : Sx} {t : Nat} (ha : ableT L X s t = true) (ho : opT X s t 0 = 17) : s.own.getD (opT X s t 1).toNat 0 = -1 := by
  unfold ableT at ha
  split at ha
  · cases ha
  · rw [if_neg (by omega), if_neg (by omega), if_pos ho] at ha
    simp only [Bool.and_eq_true, decide_eq_true_eq] at ha
    exact ha.2
theorem eff_fell {mode : Int} {s : Sx} {t : Nat} {o : Option (Nat × List Int × Ak)} (hs : s.fell = false) : (effS mode s t o).fell = o.isNone := by
  cases o with
  | none => rfl
  | some q =>
    obtain ⟨p, r, k⟩ := q
    show (actX mode _ t k).fell = false
    cases k <;> first
      | exact hs
      | skip
    all_goals
      show (storeW mode _ t _).fell = false
      unfold storeW doneW
      repeat' split
      all_goals exact hs
section
variable {n m lk rg : Nat} {L : Nat → Nat} {X : Nat → Nat → Nat → Int} {mode : Int} {s0 s : Sx} {B : List Int} {g : Nat → List (Wt × Bool)}
end
section
variable {n m lk rg : Nat} {L : Nat → Nat} {X : Nat → Nat → Nat → Int} {mode : Int} {s0 s : Sx} {B : List Int} {g : Nat → List (Wt × Bool)}
end
section
variable {n m lk rg : Nat} {L : Nat → Nat} {X : Nat → Nat → Nat → Int} {mode : Int} {s0 s : Sx} {B : List Int} {g : Nat → List (Wt × Bool)}
end
section
variable {n m lk rg : Nat} {L : Nat → Nat} {X : Nat → Nat → Nat → Int} {mode : Int} {s0 s : Sx} {B : List Int} {g : Nat → List (Wt × Bool)}
end
end

section
open Go.RowKit

/-- An order at its new place: the numbers that tell places tell the new ones. -/
structure MovO (pl : Nat → Nat) (op a b c op' a' b' c' : Int) : Prop where
  o : op' = op
  a : a' = if op = 14 then (pl a.toNat : Int) else a
  b : b' = if op = 15 then (pl b.toNat : Int) else b
  c : c' = c
theorem eff_mov {pl : Nat → Nat} {op a b c op' a' b' c' : Int} (h : MovO pl op a b c op' a' b' c') (pc : Nat) (rs : List Int) (rd : Int → Int) (fr : Int → Bool) (m : Nat) :
    effX (pl pc) rs rd fr m op' a' b' c' = (effX pc rs rd fr m op a b c).map fun x => (pl x.1, x.2) := by
  obtain ⟨rfl, rfl, rfl, rfl⟩ := h
  unfold effX
  rcases op_cases op' with h | rfl | rfl | rfl | rfl | rfl | rfl | rfl | rfl | rfl | rfl | rfl | rfl | rfl | rfl | rfl | rfl | rfl | rfl
  · repeat rw [if_neg (by omega)]
    rfl
  all_goals simp only [Int.reduceEq, ↓reduceIte, Option.map_some]
  all_goals first
    | rfl
    | (split <;> rfl)
theorem mem_first {L : Nat → Nat} {X : Nat → Nat → Nat → Int} {mode : Int} {s : Sx} {t : Nat} (ht : t < s.ths.length) (hw : (thOf s t).wait ≠ []) : (8 * (t : Int) + ((0 : Nat) : Int) + 1) ∈ movesX L X mode s := by
  unfold movesX
  rw [List.mem_flatMap]
  refine ⟨t, by simpa using ht, ?_⟩
  unfold movesT
  rw [List.mem_append, List.mem_map]
  refine Or.inr ⟨0, ?_, rfl⟩
  rw [List.mem_filter]
  exact ⟨by simpa using List.length_pos_iff.mpr hw, rfl⟩
theorem rch_ord {L : Nat → Nat} {X : Nat → Nat → Nat → Int} {mode : Int} {s0 s : Sx} (h : Rch (nxX L X mode) s0 s) {t : Nat} (ht : t < s.ths.length) (ha : ableT L X s t = true) (hf : (doX X mode s (8 * t)).fell = false) : Rch (nxX L X mode) s0 (doX X mode s (8 * t)) :=
  h.step (mem_nx.mpr ⟨8 * (t : Int), mem_order ht ha, do_nat, hf⟩)
theorem rch_fin {L : Nat → Nat} {X : Nat → Nat → Nat → Int} {mode : Int} {s0 s : Sx} (h : Rch (nxX L X mode) s0 s) {t : Nat} (ht : t < s.ths.length) (hw : (thOf s t).wait ≠ []) (hf : s.fell = false) : Rch (nxX L X mode) s0 (doX X mode s (8 * t + 0 + 1)) :=
  h.step (mem_nx.mpr ⟨_, mem_first ht hw, by rw [show (8 * (t : Int) + ((0 : Nat) : Int) + 1).toNat = 8 * t + 0 + 1 by omega], (fell_wait (k := 0) (by omega)).trans hf⟩)
theorem outs_end {L : Nat → Nat} {X : Nat → Nat → Nat → Int} {mode : Int} {s : Sx} (h : movesX L X mode s = []) : (⟨if endedX L s then 0 else 2, s.words, s.prints⟩ : Oc) ∈ outsX L X mode s := by
  unfold outsX
  rw [if_pos h, List.mem_append]
  exact Or.inl (by simp)
theorem outs_fall {L : Nat → Nat} {X : Nat → Nat → Nat → Int} {mode : Int} {s : Sx} {t : Nat} (ht : t < s.ths.length) (ha : ableT L X s t = true) (he : effT X s t = none) : (⟨1, [], s.prints⟩ : Oc) ∈ outsX L X mode s := by
  unfold outsX
  rw [List.mem_append, List.mem_filterMap]
  refine Or.inr ⟨8 * (t : Int), mem_order ht ha, ?_⟩
  rw [do_nat, do_eff ht (fun e => able_13 ha (Or.inr (Or.inl e))), he]
  rfl
/-- What runs come to: none can go on, or one falls. -/
theorem outs_cases {L : Nat → Nat} {X : Nat → Nat → Nat → Int} {mode : Int} {s : Sx} (hf : s.fell = false) (hwl : ∀ t, t < s.ths.length → (thOf s t).wait.length ≤ 3) {o : Oc} (h : o ∈ outsX L X mode s) :
    (movesX L X mode s = [] ∧ o = ⟨if endedX L s then 0 else 2, s.words, s.prints⟩) ∨ ∃ t, t < s.ths.length ∧ ableT L X s t = true ∧ effT X s t = none ∧ o = ⟨1, [], s.prints⟩ := by
  unfold outsX at h
  rw [List.mem_append] at h
  rcases h with h | h
  · by_cases e : movesX L X mode s = []
    · rw [if_pos e] at h
      exact Or.inl ⟨e, by simpa using h⟩
    · rw [if_neg e] at h; cases h
  · rw [List.mem_filterMap] at h
    obtain ⟨mv, hmv, ho⟩ := h
    split at ho
    · rename_i hfe
      cases ho
      rcases movesX_mem hmv with ⟨t, ht, rfl, ha⟩ | ⟨t, k, ht, hk2, rfl, hmay⟩
      · have e13 : opT X s t 0 = 13 → (thOf s t).wait = [] := fun e => able_13 ha (Or.inr (Or.inl e))
        rw [do_nat, do_eff ht e13] at hfe ⊢
        rw [eff_fell hf] at hfe
        have heff : effT X s t = none := by
          cases e : effT X s t with
          | none => rfl
          | some q => rw [e] at hfe; cases hfe
        refine Or.inr ⟨t, ht, ha, heff, ?_⟩
        rw [heff]
        rfl
      · have hk3 := hwl t ht
        rw [show (8 * (t : Int) + (k : Int) + 1).toNat = 8 * t + k + 1 by omega, fell_wait (by omega), hf] at hfe
        cases hfe
    · cases ho
/-- What a state can become: a thread does its order, or one that waits is done. -/
theorem nx_cases {L : Nat → Nat} {X : Nat → Nat → Nat → Int} {mode : Int} {s r : Sx} (hf : s.fell = false) (hwl : ∀ t, t < s.ths.length → (thOf s t).wait.length ≤ 3) (h : r ∈ nxX L X mode s) :
    (∃ t p rs k, t < s.ths.length ∧ ableT L X s t = true ∧ effT X s t = some (p, rs, k) ∧ r = actX mode (setTh s t ⟨p, rs, (thOf s t).wait⟩) t k) ∨
    ∃ t k, t < s.ths.length ∧ k < (thOf s t).wait.length ∧ mayW mode (thOf s t).wait k = true ∧ r = setTh (doneW s ((thOf s t).wait.getD k default)) t { thOf s t with wait := (thOf s t).wait.eraseIdx k } := by
  obtain ⟨mv, hmv, rfl, hfe⟩ := mem_nx.mp h
  rcases movesX_mem hmv with ⟨t, ht, rfl, ha⟩ | ⟨t, k, ht, hk2, rfl, hmay⟩
  · have e13 : opT X s t 0 = 13 → (thOf s t).wait = [] := fun e => able_13 ha (Or.inr (Or.inl e))
    rw [do_nat, do_eff ht e13] at hfe ⊢
    rw [eff_fell hf] at hfe
    cases e : effT X s t with
    | none => rw [e] at hfe; cases hfe
    | some q =>
      obtain ⟨p, rs, k⟩ := q
      exact Or.inl ⟨t, p, rs, k, ht, ha, e, rfl⟩
  · have hk3 := hwl t ht
    refine Or.inr ⟨t, k, ht, hk2, hmay, ?_⟩
    rw [show (8 * (t : Int) + (k : Int) + 1).toNat = 8 * t + k + 1 by omega, doX_wait (by omega)]
/-- A step by a thread's order. -/
theorem rch_eff {L : Nat → Nat} {X : Nat → Nat → Nat → Int} {mode : Int} {s0 s : Sx} (h : Rch (nxX L X mode) s0 s) (hf : s.fell = false) {t : Nat} (ht : t < s.ths.length) (ha : ableT L X s t = true) {p : Nat} {rs : List Int} {k : Ak} (he : effT X s t = some (p, rs, k)) : Rch (nxX L X mode) s0 (actX mode (setTh s t ⟨p, rs, (thOf s t).wait⟩) t k) := by
  have e1 := do_eff (mode := mode) ht (fun e => able_13 ha (Or.inr (Or.inl e)))
  rw [he] at e1
  have := rch_ord h ht ha (by rw [e1, eff_fell hf]; rfl)
  rw [e1] at this
  exact this
end

end Go.Proofs.Ytefnmbnakphhfad
