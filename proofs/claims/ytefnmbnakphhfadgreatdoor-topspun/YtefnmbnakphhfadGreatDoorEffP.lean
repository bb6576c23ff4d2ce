/-
  What an order makes of its thread, parted from what it does to words, locks and prints: plain functions.
  Without clashes what waits cannot be seen: what waits, and the states without it that go with a state with it. Plain functions.
  Without clashes what waits cannot be seen: each outcome with stores that wait, in order or passing each other, is one without. Plain functions.
  Orders that are moved to other places; what orders let wait; what runs come to: plain functions.
-/
import Derived.Test.YtefnmbnakphhfadGreatDoorWorkP
import Derived.Test.YtefnmbnakphhfadGreatDoorRLk
namespace Go.Proofs.YtefnmbnakphhfadGreatDoor
section
open Go.RowKit

/-- What an order does besides to its thread's registers and place. -/
inductive Ak where
  | no
  | put (a v : Int)
  | free (a : Int)
  | take (a : Int)
  | swap (a v : Int)
  | say (v : Int)
deriving DecidableEq, Inhabited
/-- What an order makes of a thread that stands behind it: none: the run falls. rd: what it finds in a word; fr: may it free a lock? -/
def effX (pc : Nat) (rs : List Int) (rd : Int → Int) (fr : Int → Bool) (m : Nat) (op a b c : Int) : Option (Nat × List Int × Ak) :=
  let g : Int → Int := fun r => rs.getD r.toNat 0
  if op = 1 then some (pc, rs.set a.toNat b, .no)
  else if op = 2 then some (pc, rs.set a.toNat (g b), .no)
  else if op = 3 then some (pc, rs.set a.toNat (IntKind.i64.wrap (g b + g c)), .no)
  else if op = 4 then some (pc, rs.set a.toNat (IntKind.i64.wrap (g b - g c)), .no)
  else if op = 5 then some (pc, rs.set a.toNat (IntKind.i64.wrap (g b * g c)), .no)
  else if op = 6 then some (pc, rs.set a.toNat (bitI (decide (g b < g c))), .no)
  else if op = 7 then some (pc, rs.set a.toNat (bitI (decide (g b = g c))), .no)
  else if op = 8 then some (pc, rs.set a.toNat (rd b), .no)
  else if op = 9 then some (pc, rs, .put a (g b))
  else if op = 10 then (if g b < 0 ∨ (m : Int) ≤ g b then none else some (pc, rs.set a.toNat (rd (g b)), .no))
  else if op = 11 then (if g a < 0 ∨ (m : Int) ≤ g a then none else some (pc, rs, .put (g a) (g b)))
  else if op = 13 then (if rd a = g b then some (pc, rs.set b.toNat 1, .swap a (g c)) else some (pc, rs.set b.toNat 0, .no))
  else if op = 14 then some (a.toNat, rs, .no)
  else if op = 15 then (if g a = 0 then some (b.toNat, rs, .no) else some (pc, rs, .no))
  else if op = 16 then some (pc, rs, .say (g a))
  else if op = 17 then some (pc, rs, .take a)
  else if op = 18 then (if fr a then some (pc, rs, .free a) else none)
  else some (pc, rs, .no)
/-- A thread may free a lock: it has it, and has not freed it yet. -/
def freesW (s : Sx) (t : Nat) (a : Int) : Bool := decide (s.own.getD a.toNat 0 = (t : Int)) && !((thOf s t).wait.any fun x => x.lk && decide (x.wh = a))
def actX (mode : Int) (s : Sx) (t : Nat) : Ak → Sx
  | .no => s
  | .put a v => storeW mode s t ⟨false, a, v⟩
  | .free a => storeW mode s t ⟨true, a, 0⟩
  | .take a => { s with own := s.own.set a.toNat t }
  | .swap a v => { s with words := s.words.set a.toNat v }
  | .say v => { s with prints := s.prints ++ [(t : Int), v] }
/-- What an order makes of a state, by what it makes of its thread. -/
def effS (mode : Int) (s : Sx) (t : Nat) : Option (Nat × List Int × Ak) → Sx
  | none => fallX (setTh s t { thOf s t with pc := (thOf s t).pc + 1 })
  | some (p, r, k) => actX mode (setTh s t ⟨p, r, (thOf s t).wait⟩) t k
def effT (X : Nat → Nat → Nat → Int) (s : Sx) (t : Nat) : Option (Nat × List Int × Ak) :=
  effX ((thOf s t).pc + 1) (thOf s t).regs (findsW s t) (freesW s t) s.words.length (opT X s t 0) (opT X s t 1) (opT X s t 2) (opT X s t 3)
theorem findsW_bare {s : Sx} {t : Nat} (h : (thOf s t).wait = []) (wd : Int) : findsW s t wd = s.words.getD wd.toNat 0 := by
  unfold findsW; rw [h]; rfl
theorem do_ord {X : Nat → Nat → Nat → Int} {mode : Int} {s : Sx} {t : Nat} : doX X mode s (8 * t) = orderX mode (setTh s t { thOf s t with pc := (thOf s t).pc + 1 }) t (opT X s t 0) (opT X s t 1) (opT X s t 2) (opT X s t 3) := by
  unfold doX
  simp only [show 8 * t / 8 = t by omega, show 8 * t % 8 = 0 by omega]
  rw [if_neg (by omega)]
  rfl
theorem do_eff {X : Nat → Nat → Nat → Int} {mode : Int} {s : Sx} {t : Nat} (ht : t < s.ths.length) (h13 : opT X s t 0 = 13 → (thOf s t).wait = []) : doX X mode s (8 * t) = effS mode s t (effT X s t) := by
  rw [do_ord]
  unfold effT
  obtain ⟨op, hop⟩ : ∃ x, opT X s t 0 = x := ⟨_, rfl⟩
  obtain ⟨a, ha⟩ : ∃ x, opT X s t 1 = x := ⟨_, rfl⟩
  obtain ⟨b, hb⟩ : ∃ x, opT X s t 2 = x := ⟨_, rfl⟩
  obtain ⟨c, hc⟩ : ∃ x, opT X s t 3 = x := ⟨_, rfl⟩
  rw [hop] at h13
  rw [hop, ha, hb, hc]
  clear hop ha hb hc
  obtain ⟨p, hp⟩ : ∃ p, (thOf s t).pc + 1 = p := ⟨_, rfl⟩
  have e1 : thOf (setTh s t { thOf s t with pc := p }) t = { thOf s t with pc := p } := th_set ht _
  have e2 : ∀ x, setTh (setTh s t { thOf s t with pc := p }) t x = setTh s t x := fun x => set_set _ _ _ _
  have e3 : ∀ wd, findsW (setTh s t { thOf s t with pc := p }) t wd = findsW s t wd := fun wd => by
    unfold findsW; rw [e1]; rfl
  have e4 : ∀ r, getR (setTh s t { thOf s t with pc := p }) t r = (thOf s t).regs.getD r.toNat 0 := fun r => by
    unfold getR; rw [e1]
  have e5 : ∀ r v, setR (setTh s t { thOf s t with pc := p }) t r v = setTh s t ⟨p, (thOf s t).regs.set r.toNat v, (thOf s t).wait⟩ := fun r v => by
    unfold setR; rw [e2, e1]
  have e6 : ∀ x, storeW mode (setTh s t { thOf s t with pc := p }) t x = storeW mode (setTh s t ⟨p, (thOf s t).regs, (thOf s t).wait⟩) t x := fun x => rfl
  unfold orderX effX
  rw [hp]
  simp only [e4, e5, e3, e1, e2]
  have hw : (setTh s t { thOf s t with pc := p }).words = s.words := rfl
  have ho : (setTh s t { thOf s t with pc := p }).own = s.own := rfl
  have hq : (setTh s t { thOf s t with pc := p }).prints = s.prints := rfl
  rw [hw, ho, hq]
  have e7 : ∀ l r v, setR { setTh s t { thOf s t with pc := p } with words := l } t r v = { setTh s t ⟨p, (thOf s t).regs.set r.toNat v, (thOf s t).wait⟩ with words := l } := fun l r v => by
    have h : setR { setTh s t { thOf s t with pc := p } with words := l } t r v = { setR (setTh s t { thOf s t with pc := p }) t r v with words := l } := rfl
    rw [h, e5]
  clear hw ho hq e1 e2 e3 e4 e5 e6
  rcases op_cases op with h | rfl | rfl | rfl | rfl | rfl | rfl | rfl | rfl | rfl | rfl | rfl | rfl | rfl | rfl | rfl | rfl | rfl | rfl
  · repeat rw [if_neg (by omega)]
    rfl
  all_goals simp only [Int.reduceEq, ↓reduceIte]
  all_goals first
    | rfl
    | skip
  · split
    · show fallX _ = fallX _
      rw [hp]
    · rfl
  · split
    · show fallX _ = fallX _
      rw [hp]
    · rfl
  · rw [findsW_bare (h13 rfl)]
    split
    · exact e7 _ _ _
    · rfl
  · split <;> rfl
  · unfold freesW
    by_cases h1 : s.own.getD a.toNat 0 = (t : Int)
    · cases h2 : (thOf s t).wait.any fun x => x.lk && decide (x.wh = a)
      · rw [if_neg (fun h => h.elim (fun h => h h1) (fun h => Bool.noConfusion h))]
        simp only [h1, decide_true, Bool.not_false, Bool.and_self, ↓reduceIte]
        rfl
      · rw [if_pos (Or.inr rfl)]
        simp only [Bool.not_true, Bool.and_false, Bool.false_eq_true, ↓reduceIte]
        show fallX _ = fallX _
        rw [hp]
    · rw [if_pos (Or.inl h1)]
      simp only [h1, decide_false, Bool.false_and, Bool.false_eq_true, ↓reduceIte]
      show fallX _ = fallX _
      rw [hp]
end

section
open Go.RowKit

/-! What waits, and what it makes of words and locks. -/
/-- Does one that waits say what a word becomes? -/
def hitW (w : Int) (x : Wt) : Bool := !x.lk && decide (x.wh = w)
/-- What the last one says that a word becomes. -/
def lastI (l : List Wt) (w : Int) : Option Int := (l.reverse.find? (hitW w)).map fun x => x.what
theorem lastI_append (l r : List Wt) (w : Int) : lastI (l ++ r) w = (lastI r w).or (lastI l w) := by
  unfold lastI
  rw [List.reverse_append, List.find?_append]
  cases r.reverse.find? (hitW w) <;> rfl
theorem lastI_cons (x : Wt) (l : List Wt) (w : Int) : lastI (x :: l) w = (lastI l w).or (if hitW w x then some x.what else none) := by
  rw [show x :: l = [x] ++ l from rfl, lastI_append]
  unfold lastI
  show _ = _
  simp only [List.reverse_cons, List.reverse_nil, List.nil_append, List.find?_cons, List.find?_nil]
  cases hitW w x <;> rfl
theorem finds_last (s : Sx) (t : Nat) (w : Int) : findsW s t w = (lastI (thOf s t).wait w).getD (s.words.getD w.toNat 0) := by
  unfold findsW lastI hitW
  cases (thOf s t).wait.reverse.find? fun x => !x.lk && decide (x.wh = w) <;> rfl
/-! Those that were put into a buffer; some of them are done already. -/
section
variable {n m lk rg : Nat} {L : Nat → Nat} {X : Nat → Nat → Nat → Int} {mode : Int} {s0 s : Sx} {B : List Int} {g : Nat → List (Wt × Bool)}
end
section
variable {n m lk rg : Nat} {L : Nat → Nat} {X : Nat → Nat → Nat → Int} {mode : Int} {s0 s A : Sx} {B : List Int} {I : Nat → List Wt} {u : Nat}
end
theorem eff_put {pc : Nat} {rs : List Int} {rd : Int → Int} {fr : Int → Bool} {m : Nat} {op a b c : Int} {p : Nat} {r : List Int} {y v : Int} (h : effX pc rs rd fr m op a b c = some (p, r, .put y v)) : (op = 9 ∧ a = y) ∨ (op = 11 ∧ rs.getD a.toNat 0 = y ∧ 0 ≤ y ∧ y < (m : Int)) := by
  unfold effX at h
  rcases op_cases op with h1 | rfl | rfl | rfl | rfl | rfl | rfl | rfl | rfl | rfl | rfl | rfl | rfl | rfl | rfl | rfl | rfl | rfl | rfl
  · repeat rw [if_neg (by omega)] at h
    cases h
  all_goals simp only [Int.reduceEq, ↓reduceIte] at h
  all_goals (repeat' split at h)
  all_goals first
    | (cases h; done)
    | skip
  · cases h; exact Or.inl ⟨rfl, rfl⟩
  · cases h
    exact Or.inr ⟨rfl, rfl, by omega, by omega⟩
theorem eff_free {pc : Nat} {rs : List Int} {rd : Int → Int} {fr : Int → Bool} {m : Nat} {op a b c : Int} {p : Nat} {r : List Int} {y : Int} (h : effX pc rs rd fr m op a b c = some (p, r, .free y)) : op = 18 ∧ a = y := by
  unfold effX at h
  rcases op_cases op with h1 | rfl | rfl | rfl | rfl | rfl | rfl | rfl | rfl | rfl | rfl | rfl | rfl | rfl | rfl | rfl | rfl | rfl | rfl
  · repeat rw [if_neg (by omega)] at h
    cases h
  all_goals simp only [Int.reduceEq, ↓reduceIte] at h
  all_goals (repeat' split at h)
  all_goals first
    | (cases h; done)
    | skip
  · cases h; exact ⟨rfl, rfl⟩
theorem eff_take {pc : Nat} {rs : List Int} {rd : Int → Int} {fr : Int → Bool} {m : Nat} {op a b c : Int} {p : Nat} {r : List Int} {y : Int} (h : effX pc rs rd fr m op a b c = some (p, r, .take y)) : op = 17 ∧ a = y := by
  unfold effX at h
  rcases op_cases op with h1 | rfl | rfl | rfl | rfl | rfl | rfl | rfl | rfl | rfl | rfl | rfl | rfl | rfl | rfl | rfl | rfl | rfl | rfl
  · repeat rw [if_neg (by omega)] at h
    cases h
  all_goals simp only [Int.reduceEq, ↓reduceIte] at h
  all_goals (repeat' split at h)
  all_goals first
    | (cases h; done)
    | skip
  · cases h; exact ⟨rfl, rfl⟩
end

section
open Go.RowKit

theorem mem_order {L : Nat → Nat} {X : Nat → Nat → Nat → Int} {mode : Int} {s : Sx} {t : Nat} (ht : t < s.ths.length) (ha : ableT L X s t = true) : (8 * (t : Int)) ∈ movesX L X mode s := by
  unfold movesX
  rw [List.mem_flatMap]
  refine ⟨t, by simpa using ht, ?_⟩
  unfold movesT
  rw [ha]
  simp
theorem do_nat {X : Nat → Nat → Nat → Int} {mode : Int} {s : Sx} {t : Nat} : doX X mode s (8 * (t : Int)).toNat = doX X mode s (8 * t) := by
  rw [show (8 * (t : Int)).toNat = 8 * t by omega]
theorem able_13 {L : Nat → Nat} {X : Nat → Nat → Nat → Int} {s : Sx} {t : Nat} (ha : ableT L X s t = true) (ho : opT X s t 0 = 12 ∨ opT X s t 0 = 13 ∨ opT X s t 0 = 17) : (thOf s t).wait = [] := by
  unfold ableT at ha
  split at ha
  · cases ha
  · rw [if_neg (by omega)] at ha
    rcases ho with e | e | e
    · rw [if_pos (Or.inl e)] at ha
      exact List.length_eq_zero_iff.mp (by simpa using ha)
    · rw [if_pos (Or.inr e)] at ha
      exact List.length_eq_zero_iff.mp (by simpa using ha)
    · rw [if_neg (by omega), if_pos e] at ha
      simp only [Bool.and_eq_true, decide_eq_true_eq] at ha
      exact List.length_eq_zero_iff.mp ha.1
theorem able_17 {L : Nat → Nat} {X : Nat → Nat → Nat → Int} {s : Sx} {t : Nat} (ha : ableT L X s t = true) (ho : opT X s t 0 = 17) : s.own.getD (opT X s t 1).toNat 0 = -1 := by
  unfold ableT at ha
  split at ha
  · cases ha
  · rw [if_neg (by omega), if_neg (by omega), if_pos ho] at ha
    simp only [Bool.and_eq_true, decide_eq_true_eq] at ha
    exact ha.2
theorem eff_fell {mode : Int} {s : Sx} {t : Nat} {o : Option (Nat × List Int × Ak)} (hs : s.fell = false) : (effS mode s t o).fell = o.isNone := by
  cases o with
  | none => rfl
  | some q =>
    obtain ⟨p, r, k⟩ := q
    show (actX mode _ t k).fell = false
    cases k <;> first
      | exact hs
      | skip
    all_goals
      show (storeW mode _ t _).fell = false
      unfold storeW doneW
      repeat' split
      all_goals exact hs
section
variable {n m lk rg : Nat} {L : Nat → Nat} {X : Nat → Nat → Nat → Int} {mode : Int} {s0 s : Sx} {B : List Int} {g : Nat → List (Wt × Bool)}
end
section
variable {n m lk rg : Nat} {L : Nat → Nat} {X : Nat → Nat → Nat → Int} {mode : Int} {s0 s : Sx} {B : List Int} {g : Nat → List (Wt × Bool)}
end
section
variable {n m lk rg : Nat} {L : Nat → Nat} {X : Nat → Nat → Nat → Int} {mode : Int} {s0 s : Sx} {B : List Int} {g : Nat → List (Wt × Bool)}
end
section
variable {n m lk rg : Nat} {L : Nat → Nat} {X : Nat → Nat → Nat → Int} {mode : Int} {s0 s : Sx} {B : List Int} {g : Nat → List (Wt × Bool)}
theorem mem_wait {s : Sx} {t : Nat} (ht : t < s.ths.length) (hw : (thOf s t).wait ≠ []) : movesX L X mode s ≠ [] := by
  intro e
  unfold movesX at e
  rw [List.flatMap_eq_nil_iff] at e
  have h1 := e t (by simpa using ht)
  unfold movesT at h1
  rw [List.append_eq_nil_iff] at h1
  have h2 := h1.2
  rw [List.map_eq_nil_iff, List.filter_eq_nil_iff] at h2
  have h3 : 0 < (thOf s t).wait.length := List.length_pos_iff.mpr hw
  have := h2 0 (by simpa using h3)
  exact this rfl
end
end

section
open Go.RowKit

/-- An order that lets something wait. -/
def wtO (op : Int) : Bool := decide (op = 9) || decide (op = 11) || decide (op = 18)
theorem wtO_yes {op : Int} (h : wtO op = true) : op = 9 ∨ op = 11 ∨ op = 18 := by simpa [wtO, or_assoc] using h
theorem wtO_no {op : Int} (h : wtO op = false) : op ≠ 9 ∧ op ≠ 11 ∧ op ≠ 18 := by simpa [wtO, and_assoc] using h
/-- An order at its new place: the numbers that tell places tell the new ones. -/
structure MovO (pl : Nat → Nat) (op a b c op' a' b' c' : Int) : Prop where
  o : op' = op
  a : a' = if op = 14 then (pl a.toNat : Int) else a
  b : b' = if op = 15 then (pl b.toNat : Int) else b
  c : c' = c
theorem eff_mov {pl : Nat → Nat} {op a b c op' a' b' c' : Int} (h : MovO pl op a b c op' a' b' c') (pc : Nat) (rs : List Int) (rd : Int → Int) (fr : Int → Bool) (m : Nat) :
    effX (pl pc) rs rd fr m op' a' b' c' = (effX pc rs rd fr m op a b c).map fun x => (pl x.1, x.2) := by
  obtain ⟨rfl, rfl, rfl, rfl⟩ := h
  unfold effX
  rcases op_cases op' with h | rfl | rfl | rfl | rfl | rfl | rfl | rfl | rfl | rfl | rfl | rfl | rfl | rfl | rfl | rfl | rfl | rfl | rfl
  · repeat rw [if_neg (by omega)]
    rfl
  all_goals simp only [Int.reduceEq, ↓reduceIte, Option.map_some]
  all_goals first
    | rfl
    | (split <;> rfl)
/-- What an order puts into its thread's buffer. -/
def StoreOf (X : Nat → Nat → Nat → Int) (s : Sx) (t : Nat) (x : Wt) : Prop :=
  (opT X s t 0 = 9 ∧ x = ⟨false, opT X s t 1, getR s t (opT X s t 2)⟩) ∨
  (opT X s t 0 = 11 ∧ (0 ≤ getR s t (opT X s t 1) ∧ getR s t (opT X s t 1) < s.words.length) ∧ x = ⟨false, getR s t (opT X s t 1), getR s t (opT X s t 2)⟩) ∨
  (opT X s t 0 = 18 ∧ s.own.getD (opT X s t 1).toNat 0 = (t : Int) ∧ x = ⟨true, opT X s t 1, 0⟩)
def akOf (x : Wt) : Ak := if x.lk then .free x.wh else .put x.wh x.what
theorem act_ak {mode : Int} {s : Sx} {t : Nat} {x : Wt} (h : x.lk = true → x.what = 0) : actX mode s t (akOf x) = storeW mode s t x := by
  obtain ⟨l, w, v⟩ := x
  cases l with
  | false => rfl
  | true =>
    have : v = 0 := h rfl
    subst this
    rfl
theorem StoreOf.zero {X : Nat → Nat → Nat → Int} {s : Sx} {t : Nat} {x : Wt} (h : StoreOf X s t x) : x.lk = true → x.what = 0 := by
  rcases h with ⟨_, rfl⟩ | ⟨_, _, rfl⟩ | ⟨_, _, rfl⟩ <;> intro h <;> first | rfl | cases h
theorem StoreOf.wt {X : Nat → Nat → Nat → Int} {s : Sx} {t : Nat} {x : Wt} (h : StoreOf X s t x) : wtO (opT X s t 0) = true := by
  rcases h with ⟨h, _⟩ | ⟨h, _⟩ | ⟨h, _⟩ <;> rw [h] <;> rfl
theorem store_eff {X : Nat → Nat → Nat → Int} {s : Sx} {t : Nat} (ho : wtO (opT X s t 0) = true) :
    effT X s t = none ∨ ∃ x, StoreOf X s t x ∧ effT X s t = some ((thOf s t).pc + 1, (thOf s t).regs, akOf x) := by
  unfold effT effX
  rcases wtO_yes ho with h | h | h
  all_goals rw [h]
  all_goals simp only [Int.reduceEq, ↓reduceIte]
  · exact Or.inr ⟨_, Or.inl ⟨h, rfl⟩, rfl⟩
  · split
    · exact Or.inl rfl
    · rename_i h1
      exact Or.inr ⟨⟨false, getR s t (opT X s t 1), getR s t (opT X s t 2)⟩, Or.inr (Or.inl ⟨h, by unfold getR; omega, rfl⟩), rfl⟩
  · split
    · rename_i h1
      refine Or.inr ⟨⟨true, opT X s t 1, 0⟩, Or.inr (Or.inr ⟨h, ?_, rfl⟩), rfl⟩
      unfold freesW at h1
      simp only [Bool.and_eq_true, decide_eq_true_eq] at h1
      exact h1.1
    · exact Or.inl rfl
theorem StoreOf.eff {X : Nat → Nat → Nat → Int} {s : Sx} {t : Nat} {x : Wt} (h : StoreOf X s t x) (hw : (thOf s t).wait = []) : effT X s t = some ((thOf s t).pc + 1, (thOf s t).regs, akOf x) := by
  unfold effT effX
  rcases h with ⟨h, rfl⟩ | ⟨h, h1, rfl⟩ | ⟨h, h1, rfl⟩
  all_goals rw [h]
  all_goals simp only [Int.reduceEq, ↓reduceIte]
  · rfl
  · unfold getR at h1
    rw [if_neg (by omega)]
    rfl
  · have : freesW s t (opT X s t 1) = true := by
      unfold freesW
      rw [hw, h1]
      simp
    rw [this]
    rfl
/-- What another thread's order leaves of it. -/
theorem StoreOf.same {X : Nat → Nat → Nat → Int} {s r : Sx} {t : Nat} {x : Wt} (h : StoreOf X s t x) (ht : thOf r t = thOf s t) (hm : r.words.length = s.words.length) (ho : ∀ a, s.own.getD a 0 = (t : Int) → r.own.getD a 0 = (t : Int)) : StoreOf X r t x := by
  unfold StoreOf opT getR at *
  rw [ht, hm]
  rcases h with h | h | ⟨h1, h2, h3⟩
  · exact Or.inl h
  · exact Or.inr (Or.inl h)
  · exact Or.inr (Or.inr ⟨h1, ho _ h2, h3⟩)
/-- An order that lets nothing wait puts nothing into a buffer. -/
theorem eff_no {pc : Nat} {rs : List Int} {rd : Int → Int} {fr : Int → Bool} {m : Nat} {op a b c : Int} {p : Nat} {r : List Int} {k : Ak} (ho : wtO op = false) (h : effX pc rs rd fr m op a b c = some (p, r, k)) : (∀ a v, k ≠ .put a v) ∧ ∀ a, k ≠ .free a := by
  obtain ⟨h1, h2, h3⟩ := wtO_no ho
  refine ⟨fun y v e => ?_, fun y e => ?_⟩
  · subst e
    rcases eff_put h with ⟨h, _⟩ | ⟨h, _⟩
    · exact h1 h
    · exact h2 h
  · subst e
    exact h3 (eff_free h).1
theorem moves_nil {L : Nat → Nat} {X : Nat → Nat → Nat → Int} {mode : Int} {s : Sx} : movesX L X mode s = [] ↔ ∀ t, t < s.ths.length → ableT L X s t = false ∧ (thOf s t).wait = [] := by
  constructor
  · intro h t ht
    refine ⟨?_, Classical.byContradiction fun hne => mem_wait ht hne h⟩
    cases e : ableT L X s t with
    | false => rfl
    | true =>
      have := mem_order (mode := mode) ht e
      rw [h] at this
      cases this
  · intro h
    unfold movesX
    rw [List.flatMap_eq_nil_iff]
    intro t ht
    obtain ⟨h1, h2⟩ := h t (by simpa using ht)
    unfold movesT
    rw [h1, h2]
    rfl
theorem mem_first {L : Nat → Nat} {X : Nat → Nat → Nat → Int} {mode : Int} {s : Sx} {t : Nat} (ht : t < s.ths.length) (hw : (thOf s t).wait ≠ []) : (8 * (t : Int) + ((0 : Nat) : Int) + 1) ∈ movesX L X mode s := by
  unfold movesX
  rw [List.mem_flatMap]
  refine ⟨t, by simpa using ht, ?_⟩
  unfold movesT
  rw [List.mem_append, List.mem_map]
  refine Or.inr ⟨0, ?_, rfl⟩
  rw [List.mem_filter]
  exact ⟨by simpa using List.length_pos_iff.mpr hw, rfl⟩
theorem rch_ord {L : Nat → Nat} {X : Nat → Nat → Nat → Int} {mode : Int} {s0 s : Sx} (h : Rch (nxX L X mode) s0 s) {t : Nat} (ht : t < s.ths.length) (ha : ableT L X s t = true) (hf : (doX X mode s (8 * t)).fell = false) : Rch (nxX L X mode) s0 (doX X mode s (8 * t)) :=
  h.step (mem_nx.mpr ⟨8 * (t : Int), mem_order ht ha, do_nat, hf⟩)
theorem rch_fin {L : Nat → Nat} {X : Nat → Nat → Nat → Int} {mode : Int} {s0 s : Sx} (h : Rch (nxX L X mode) s0 s) {t : Nat} (ht : t < s.ths.length) (hw : (thOf s t).wait ≠ []) (hf : s.fell = false) : Rch (nxX L X mode) s0 (doX X mode s (8 * t + 0 + 1)) :=
  h.step (mem_nx.mpr ⟨_, mem_first ht hw, by rw [show (8 * (t : Int) + ((0 : Nat) : Int) + 1).toNat = 8 * t + 0 + 1 by omega], (fell_wait (k := 0) (by omega)).trans hf⟩)
theorem outs_end {L : Nat → Nat} {X : Nat → Nat → Nat → Int} {mode : Int} {s : Sx} (h : movesX L X mode s = []) : (⟨if endedX L s then 0 else 2, s.words, s.prints⟩ : Oc) ∈ outsX L X mode s := by
  unfold outsX
  rw [if_pos h, List.mem_append]
  exact Or.inl (by simp)
theorem outs_fall {L : Nat → Nat} {X : Nat → Nat → Nat → Int} {mode : Int} {s : Sx} {t : Nat} (ht : t < s.ths.length) (ha : ableT L X s t = true) (he : effT X s t = none) : (⟨1, [], s.prints⟩ : Oc) ∈ outsX L X mode s := by
  unfold outsX
  rw [List.mem_append, List.mem_filterMap]
  refine Or.inr ⟨8 * (t : Int), mem_order ht ha, ?_⟩
  rw [do_nat, do_eff ht (fun e => able_13 ha (Or.inr (Or.inl e))), he]
  rfl
/-- What runs come to: none can go on, or one falls. -/
theorem outs_cases {L : Nat → Nat} {X : Nat → Nat → Nat → Int} {mode : Int} {s : Sx} (hf : s.fell = false) (hwl : ∀ t, t < s.ths.length → (thOf s t).wait.length ≤ 3) {o : Oc} (h : o ∈ outsX L X mode s) :
    (movesX L X mode s = [] ∧ o = ⟨if endedX L s then 0 else 2, s.words, s.prints⟩) ∨ ∃ t, t < s.ths.length ∧ ableT L X s t = true ∧ effT X s t = none ∧ o = ⟨1, [], s.prints⟩ := by
  unfold outsX at h
  rw [List.mem_append] at h
  rcases h with h | h
  · by_cases e : movesX L X mode s = []
    · rw [if_pos e] at h
      exact Or.inl ⟨e, by simpa using h⟩
    · rw [if_neg e] at h; cases h
  · rw [List.mem_filterMap] at h
    obtain ⟨mv, hmv, ho⟩ := h
    split at ho
    · rename_i hfe
      cases ho
      rcases movesX_mem hmv with ⟨t, ht, rfl, ha⟩ | ⟨t, k, ht, hk2, rfl, hmay⟩
      · have e13 : opT X s t 0 = 13 → (thOf s t).wait = [] := fun e => able_13 ha (Or.inr (Or.inl e))
        rw [do_nat, do_eff ht e13] at hfe ⊢
        rw [eff_fell hf] at hfe
        have heff : effT X s t = none := by
          cases e : effT X s t with
          | none => rfl
          | some q => rw [e] at hfe; cases hfe
        refine Or.inr ⟨t, ht, ha, heff, ?_⟩
        rw [heff]
        rfl
      · have hk3 := hwl t ht
        rw [show (8 * (t : Int) + (k : Int) + 1).toNat = 8 * t + k + 1 by omega, fell_wait (by omega), hf] at hfe
        cases hfe
    · cases ho
/-- What a state can become: a thread does its order, or one that waits is done. -/
theorem nx_cases {L : Nat → Nat} {X : Nat → Nat → Nat → Int} {mode : Int} {s r : Sx} (hf : s.fell = false) (hwl : ∀ t, t < s.ths.length → (thOf s t).wait.length ≤ 3) (h : r ∈ nxX L X mode s) :
    (∃ t p rs k, t < s.ths.length ∧ ableT L X s t = true ∧ effT X s t = some (p, rs, k) ∧ r = actX mode (setTh s t ⟨p, rs, (thOf s t).wait⟩) t k) ∨
    ∃ t k, t < s.ths.length ∧ k < (thOf s t).wait.length ∧ mayW mode (thOf s t).wait k = true ∧ r = setTh (doneW s ((thOf s t).wait.getD k default)) t { thOf s t with wait := (thOf s t).wait.eraseIdx k } := by
  obtain ⟨mv, hmv, rfl, hfe⟩ := mem_nx.mp h
  rcases movesX_mem hmv with ⟨t, ht, rfl, ha⟩ | ⟨t, k, ht, hk2, rfl, hmay⟩
  · have e13 : opT X s t 0 = 13 → (thOf s t).wait = [] := fun e => able_13 ha (Or.inr (Or.inl e))
    rw [do_nat, do_eff ht e13] at hfe ⊢
    rw [eff_fell hf] at hfe
    cases e : effT X s t with
    | none => rw [e] at hfe; cases hfe
    | some q =>
      obtain ⟨p, rs, k⟩ := q
      exact Or.inl ⟨t, p, rs, k, ht, ha, e, rfl⟩
  · have hk3 := hwl t ht
    refine Or.inr ⟨t, k, ht, hk2, hmay, ?_⟩
    rw [show (8 * (t : Int) + (k : Int) + 1).toNat = 8 * t + k + 1 by omega, doX_wait (by omega)]
/-- A step by a thread's order. -/
theorem rch_eff {L : Nat → Nat} {X : Nat → Nat → Nat → Int} {mode : Int} {s0 s : Sx} (h : Rch (nxX L X mode) s0 s) (hf : s.fell = false) {t : Nat} (ht : t < s.ths.length) (ha : ableT L X s t = true) {p : Nat} {rs : List Int} {k : Ak} (he : effT X s t = some (p, rs, k)) : Rch (nxX L X mode) s0 (actX mode (setTh s t ⟨p, rs, (thOf s t).wait⟩) t k) := by
  have e1 := do_eff (mode := mode) ht (fun e => able_13 ha (Or.inr (Or.inl e)))
  rw [he] at e1
  have := rch_ord h ht ha (by rw [e1, eff_fell hf]; rfl)
  rw [e1] at this
  exact this
end

end Go.Proofs.YtefnmbnakphhfadGreatDoor
