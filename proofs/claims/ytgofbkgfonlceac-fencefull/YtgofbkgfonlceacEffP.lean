/-
  What an order makes of its thread, parted from what it does to words, locks and prints: plain functions.
  Without clashes what waits cannot be seen: what waits, and the states without it that go with a state with it. Plain functions.
  Without clashes what waits cannot be seen: each outcome with stores that wait, in order or passing each other, is one without. Plain functions.
-/
import Derived.Test.YtgofbkgfonlceacSpaceP
import Derived.Test.YtgofbkgfonlceacRDoW
namespace Go.Proofs.Ytgofbkgfonlceac
section
open Go.RowKit

/-- What an order does besides to its thread's registers and place. -/
inductive Ak where
  | no
  | put (a v : Int)
  | free (a : Int)
  | take (a : Int)
  | swap (a v : Int)
  | say (v : Int)
deriving DecidableEq, Inhabited
/-- What an order makes of a thread that stands behind it: none: the run falls. rd: what it finds in a word; fr: may it free a lock? -/
def effX (pc : Nat) (rs : List Int) (rd : Int → Int) (fr : Int → Bool) (m : Nat) (op a b c : Int) : Option (Nat × List Int × Ak) :=
  let g : Int → Int := fun r => rs.getD r.toNat 0
  if op = 1 then some (pc, rs.set a.toNat b, .no)
  else if op = 2 then some (pc, rs.set a.toNat (g b), .no)
  else if op = 3 then some (pc, rs.set a.toNat (IntKind.i64.wrap (g b + g c)), .no)
  else if op = 4 then some (pc, rs.set a.toNat (IntKind.i64.wrap (g b - g c)), .no)
  else if op = 5 then some (pc, rs.set a.toNat (IntKind.i64.wrap (g b * g c)), .no)
  else if op = 6 then some (pc, rs.set a.toNat (bitI (decide (g b < g c))), .no)
  else if op = 7 then some (pc, rs.set a.toNat (bitI (decide (g b = g c))), .no)
  else if op = 8 then some (pc, rs.set a.toNat (rd b), .no)
  else if op = 9 then some (pc, rs, .put a (g b))
  else if op = 10 then (if g b < 0 ∨ (m : Int) ≤ g b then none else some (pc, rs.set a.toNat (rd (g b)), .no))
  else if op = 11 then (if g a < 0 ∨ (m : Int) ≤ g a then none else some (pc, rs, .put (g a) (g b)))
  else if op = 13 then (if rd a = g b then some (pc, rs.set b.toNat 1, .swap a (g c)) else some (pc, rs.set b.toNat 0, .no))
  else if op = 14 then some (a.toNat, rs, .no)
  else if op = 15 then (if g a = 0 then some (b.toNat, rs, .no) else some (pc, rs, .no))
  else if op = 16 then some (pc, rs, .say (g a))
  else if op = 17 then some (pc, rs, .take a)
  else if op = 18 then (if fr a then some (pc, rs, .free a) else none)
  else some (pc, rs, .no)
/-- A thread may free a lock: it has it, and has not freed it yet. -/
def freesW (s : Sx) (t : Nat) (a : Int) : Bool := decide (s.own.getD a.toNat 0 = (t : Int)) && !((thOf s t).wait.any fun x => x.lk && decide (x.wh = a))
def actX (mode : Int) (s : Sx) (t : Nat) : Ak → Sx
  | .no => s
  | .put a v => storeW mode s t ⟨false, a, v⟩
  | .free a => storeW mode s t ⟨true, a, 0⟩
  | .take a => { s with own := s.own.set a.toNat t }
  | .swap a v => { s with words := s.words.set a.toNat v }
  | .say v => { s with prints := s.prints ++ [(t : Int), v] }
/-- What an order makes of a state, by what it makes of its thread. -/
def effS (mode : Int) (s : Sx) (t : Nat) : Option (Nat × List Int × Ak) → Sx
  | none => fallX (setTh s t { thOf s t with pc := (thOf s t).pc + 1 })
  | some (p, r, k) => actX mode (setTh s t ⟨p, r, (thOf s t).wait⟩) t k
def effT (X : Nat → Nat → Nat → Int) (s : Sx) (t : Nat) : Option (Nat × List Int × Ak) :=
  effX ((thOf s t).pc + 1) (thOf s t).regs (findsW s t) (freesW s t) s.words.length (opT X s t 0) (opT X s t 1) (opT X s t 2) (opT X s t 3)
theorem findsW_bare {s : Sx} {t : Nat} (h : (thOf s t).wait = []) (wd : Int) : findsW s t wd = s.words.getD wd.toNat 0 := by
  unfold findsW; rw [h]; rfl
theorem do_ord {X : Nat → Nat → Nat → Int} {mode : Int} {s : Sx} {t : Nat} : doX X mode s (8 * t) = orderX mode (setTh s t { thOf s t with pc := (thOf s t).pc + 1 }) t (opT X s t 0) (opT X s t 1) (opT X s t 2) (opT X s t 3) := by
  unfold doX
  simp only [show 8 * t / 8 = t by omega, show 8 * t % 8 = 0 by omega]
  rw [if_neg (by omega)]
  rfl
theorem do_eff {X : Nat → Nat → Nat → Int} {mode : Int} {s : Sx} {t : Nat} (ht : t < s.ths.length) (h13 : opT X s t 0 = 13 → (thOf s t).wait = []) : doX X mode s (8 * t) = effS mode s t (effT X s t) := by
  rw [do_ord]
  unfold effT
  obtain ⟨op, hop⟩ : ∃ x, opT X s t 0 = x := ⟨_, rfl⟩
  obtain ⟨a, ha⟩ : ∃ x, opT X s t 1 = x := ⟨_, rfl⟩
  obtain ⟨b, hb⟩ : ∃ x, opT X s t 2 = x := ⟨_, rfl⟩
  obtain ⟨c, hc⟩ : ∃ x, opT X s t 3 = x := ⟨_, rfl⟩
  rw [hop] at h13
  rw [hop, ha, hb, hc]
  clear hop ha hb hc
  obtain ⟨p, hp⟩ : ∃ p, (thOf s t).pc + 1 = p := ⟨_, rfl⟩
  have e1 : thOf (setTh s t { thOf s t with pc := p }) t = { thOf s t with pc := p } := th_set ht _
  have e2 : ∀ x, setTh (setTh s t { thOf s t with pc := p }) t x = setTh s t x := fun x => set_set _ _ _ _
  have e3 : ∀ wd, findsW (setTh s t { thOf s t with pc := p }) t wd = findsW s t wd := fun wd => by
    unfold findsW; rw [e1]; rfl
  have e4 : ∀ r, getR (setTh s t { thOf s t with pc := p }) t r = (thOf s t).regs.getD r.toNat 0 := fun r => by
    unfold getR; rw [e1]
  have e5 : ∀ r v, setR (setTh s t { thOf s t with pc := p }) t r v = setTh s t ⟨p, (thOf s t).regs.set r.toNat v, (thOf s t).wait⟩ := fun r v => by
    unfold setR; rw [e2, e1]
  have e6 : ∀ x, storeW mode (setTh s t { thOf s t with pc := p }) t x = storeW mode (setTh s t ⟨p, (thOf s t).regs, (thOf s t).wait⟩) t x := fun x => rfl
  unfold orderX effX
  rw [hp]
  simp only [e4, e5, e3, e1, e2]
  have hw : (setTh s t { thOf s t with pc := p }).words = s.words := rfl
  have ho : (setTh s t { thOf s t with pc := p }).own = s.own := rfl
  have hq : (setTh s t { thOf s t with pc := p }).prints = s.prints := rfl
  rw [hw, ho, hq]
  have e7 : ∀ l r v, setR { setTh s t { thOf s t with pc := p } with words := l } t r v = { setTh s t ⟨p, (thOf s t).regs.set r.toNat v, (thOf s t).wait⟩ with words := l } := fun l r v => by
    have h : setR { setTh s t { thOf s t with pc := p } with words := l } t r v = { setR (setTh s t { thOf s t with pc := p }) t r v with words := l } := rfl
    rw [h, e5]
  clear hw ho hq e1 e2 e3 e4 e5 e6
  rcases op_cases op with h | rfl | rfl | rfl | rfl | rfl | rfl | rfl | rfl | rfl | rfl | rfl | rfl | rfl | rfl | rfl | rfl | rfl | rfl
  · repeat rw [if_neg (by omega)]
    rfl
  all_goals simp only [Int.reduceEq, ↓reduceIte]
  all_goals first
    | rfl
    | skip
  · split
    · show fallX _ = fallX _
      rw [hp]
    · rfl
  · split
    · show fallX _ = fallX _
      rw [hp]
    · rfl
  · rw [findsW_bare (h13 rfl)]
    split
    · exact e7 _ _ _
    · rfl
  · split <;> rfl
  · unfold freesW
    by_cases h1 : s.own.getD a.toNat 0 = (t : Int)
    · cases h2 : (thOf s t).wait.any fun x => x.lk && decide (x.wh = a)
      · rw [if_neg (fun h => h.elim (fun h => h h1) (fun h => Bool.noConfusion h))]
        simp only [h1, decide_true, Bool.not_false, Bool.and_self, ↓reduceIte]
        rfl
      · rw [if_pos (Or.inr rfl)]
        simp only [Bool.not_true, Bool.and_false, Bool.false_eq_true, ↓reduceIte]
        show fallX _ = fallX _
        rw [hp]
    · rw [if_pos (Or.inl h1)]
      simp only [h1, decide_false, Bool.false_and, Bool.false_eq_true, ↓reduceIte]
      show fallX _ = fallX _
      rw [hp]
end

section
open Go.RowKit

/-! What waits, and what it makes of words and locks. -/
/-! Those that were put into a buffer; some of them are done already. -/
section
variable {n m lk rg : Nat} {L : Nat → Nat} {X : Nat → Nat → Nat → Int} {mode : Int} {s0 s : Sx} {B : List Int} {g : Nat → List (Wt × Bool)}
end
section
variable {n m lk rg : Nat} {L : Nat → Nat} {X : Nat → Nat → Nat → Int} {mode : Int} {s0 s A : Sx} {B : List Int} {I : Nat → List Wt} {u : Nat}
end
theorem eff_put {pc : Nat} {rs : List Int} {rd : Int → Int} {fr : Int → Bool} {m : Nat} {op a b c : Int} {p : Nat} {r : List Int} {y v : Int} (h : effX pc rs rd fr m op a b c = some (p, r, .put y v)) : (op = 9 ∧ a = y) ∨ (op = 11 ∧ rs.getD a.toNat 0 = y ∧ 0 ≤ y ∧ y < (m : Int)) := by
  unfold effX at h
  rcases op_cases op with h1 | rfl | rfl | rfl | rfl | rfl | rfl | rfl | rfl | rfl | rfl | rfl | rfl | rfl | rfl | rfl | rfl | rfl | rfl
  · repeat rw [if_neg (by omega)] at h
    cases h
  all_goals simp only [Int.reduceEq, ↓reduceIte] at h
  all_goals (repeat' split at h)
  all_goals first
    | (cases h; done)
    | skip
  · cases h; exact Or.inl ⟨rfl, rfl⟩
  · cases h
    exact Or.inr ⟨rfl, rfl, by omega, by omega⟩
theorem eff_free {pc : Nat} {rs : List Int} {rd : Int → Int} {fr : Int → Bool} {m : Nat} {op a b c : Int} {p : Nat} {r : List Int} {y : Int} (h : effX pc rs rd fr m op a b c = some (p, r, .free y)) : op = 18 ∧ a = y := by
  unfold effX at h
  rcases op_cases op with h1 | rfl | rfl | rfl | rfl | rfl | rfl | rfl | rfl | rfl | rfl | rfl | rfl | rfl | rfl | rfl | rfl | rfl | rfl
  · repeat rw [if_neg (by omega)] at h
    cases h
  all_goals simp only [Int.reduceEq, ↓reduceIte] at h
  all_goals (repeat' split at h)
  all_goals first
    | (cases h; done)
    | skip
  · cases h; exact ⟨rfl, rfl⟩
theorem eff_take {pc : Nat} {rs : List Int} {rd : Int → Int} {fr : Int → Bool} {m : Nat} {op a b c : Int} {p : Nat} {r : List Int} {y : Int} (h : effX pc rs rd fr m op a b c = some (p, r, .take y)) : op = 17 ∧ a = y := by
  unfold effX at h
  rcases op_cases op with h1 | rfl | rfl | rfl | rfl | rfl | rfl | rfl | rfl | rfl | rfl | rfl | rfl | rfl | rfl | rfl | rfl | rfl | rfl
  · repeat rw [if_neg (by omega)] at h
    cases h
  all_goals simp only [Int.reduceEq, ↓reduceIte] at h
  all_goals (repeat' split at h)
  all_goals first
    | (cases h; done)
    | skip
  · cases h; exact ⟨rfl, rfl⟩
end

section
open Go.RowKit

theorem mem_order {L : Nat → Nat} {X : Nat → Nat → Nat → Int} {mode : Int} {s : Sx} {t : Nat} (ht : t < s.ths.length) (ha : ableT L X s t = true) : (8 * (t : Int)) ∈ movesX L X mode s := by
  unfold movesX
  rw [List.mem_flatMap]
  refine ⟨t, by simpa using ht, ?_⟩
  unfold movesT
  rw [ha]
  simp
theorem do_nat {X : Nat → Nat → Nat → Int} {mode : Int} {s : Sx} {t : Nat} : doX X mode s (8 * (t : Int)).toNat = doX X mode s (8 * t) := by
  rw [show (8 * (t : Int)).toNat = 8 * t by omega]
theorem able_13 {L : Nat → Nat} {X : Nat → Nat → Nat → Int} {s : Sx} {t : Nat} (ha : ableT L X s t = true) (ho : opT X s t 0 = 12 ∨ opT X s t 0 = 13 ∨ opT X s t 0 = 17) : (thOf s t).wait = [] := by
  unfold ableT at ha
  split at ha
  · cases ha
  · rw [if_neg (by omega)] at ha
    rcases ho with e | e | e
    · rw [if_pos (Or.inl e)] at ha
      exact List.length_eq_zero_iff.mp (by simpa using ha)
    · rw [if_pos (Or.inr e)] at ha
      exact List.length_eq_zero_iff.mp (by simpa using ha)
    · rw [if_neg (by omega), if_pos e] at ha
      simp only [Bool.and_eq_true, decide_eq_true_eq] at ha
      exact List.length_eq_zero_iff.mp ha.1
theorem able_17 {L : Nat → Nat} {X : Nat → Nat → Nat → Int} {s : Sx} {t : Nat} (ha : ableT L X s t = true) (ho : opT X s t 0 = 17) : s.own.getD (opT X s t 1).toNat 0 = -1 := by
  unfold ableT at ha
  split at ha
  · cases ha
  · rw [if_neg (by omega), if_neg (by omega), if_pos ho] at ha
    simp only [Bool.and_eq_true, decide_eq_true_eq] at ha
    exact ha.2
theorem eff_fell {mode : Int} {s : Sx} {t : Nat} {o : Option (Nat × List Int × Ak)} (hs : s.fell = false) : (effS mode s t o).fell = o.isNone := by
  cases o with
  | none => rfl
  | some q =>
    obtain ⟨p, r, k⟩ := q
    show (actX mode _ t k).fell = false
    cases k <;> first
      | exact hs
      | skip
    all_goals
      show (storeW mode _ t _).fell = false
      unfold storeW doneW
      repeat' split
      all_goals exact hs
section
variable {n m lk rg : Nat} {L : Nat → Nat} {X : Nat → Nat → Nat → Int} {mode : Int} {s0 s : Sx} {B : List Int} {g : Nat → List (Wt × Bool)}
end
section
variable {n m lk rg : Nat} {L : Nat → Nat} {X : Nat → Nat → Nat → Int} {mode : Int} {s0 s : Sx} {B : List Int} {g : Nat → List (Wt × Bool)}
end
section
variable {n m lk rg : Nat} {L : Nat → Nat} {X : Nat → Nat → Nat → Int} {mode : Int} {s0 s : Sx} {B : List Int} {g : Nat → List (Wt × Bool)}
end
section
variable {n m lk rg : Nat} {L : Nat → Nat} {X : Nat → Nat → Nat → Int} {mode : Int} {s0 s : Sx} {B : List Int} {g : Nat → List (Wt × Bool)}
theorem mem_wait {s : Sx} {t : Nat} (ht : t < s.ths.length) (hw : (thOf s t).wait ≠ []) : movesX L X mode s ≠ [] := by
  intro e
  unfold movesX at e
  rw [List.flatMap_eq_nil_iff] at e
  have h1 := e t (by simpa using ht)
  unfold movesT at h1
  rw [List.append_eq_nil_iff] at h1
  have h2 := h1.2
  rw [List.map_eq_nil_iff, List.filter_eq_nil_iff] at h2
  have h3 : 0 < (thOf s t).wait.length := List.length_pos_iff.mpr hw
  have := h2 0 (by simpa using h3)
  exact this rfl
end
end

end Go.Proofs.Ytgofbkgfonlceac
