/-
  What an order makes of its thread, parted from what it does to words, locks and prints: plain functions.
  Without clashes what waits cannot be seen: each outcome with stores that wait, in order or passing each other, is one without. Plain functions.
  Orders that are moved to other places; what orders let wait; what runs come to: plain functions.
  WITH A FENCE BEHIND EACH STORE nothing that waits is seen: the outcomes are those of the plain program without stores that wait. Plain functions.
  FENCES ahead of which nothing waits are none: the outcomes are the same without them. Plain functions.
  Whether two lists of outcomes are the same, by the document.
  The document's Check as one contract.
  Rows that stay where others grow.
-/
import Derived.Test.YtkailbdjilkneaaDoorWorkP
import Derived.Test.YtkailbdjilkneaaDoorRDoW
import Derived.Test.YtkailbdjilkneaaDoorOptW
import Derived.Test.YtkailbdjilkneaaDoorRFind
import Derived.Test.YtkailbdjilkneaaDoorCheckR2
import Derived.Test.YtkailbdjilkneaaDoorFam
namespace Go.Proofs.YtkailbdjilkneaaDoor
section
open Go.RowKit

/-- What an order does besides to its thread's registers and place. -/
inductive Ak where
  | no
  | put (a v : Int)
  | free (a : Int)
  | take (a : Int)
  | swap (a v : Int)
  | say (v : Int)
deriving DecidableEq, Inhabited
/-- What an order makes of a thread that stands behind it: none: the run falls. rd: what it finds in a word; fr: may it free a lock? -/
def effX (pc : Nat) (rs : List Int) (rd : Int → Int) (fr : Int → Bool) (m : Nat) (op a b c : Int) : Option (Nat × List Int × Ak) :=
  let g : Int → Int := fun r => rs.getD r.toNat 0
  if op = 1 then some (pc, rs.set a.toNat b, .no)
  else if op = 2 then some (pc, rs.set a.toNat (g b), .no)
  else if op = 3 then some (pc, rs.set a.toNat (IntKind.i64.wrap (g b + g c)), .no)
  else if op = 4 then some (pc, rs.set a.toNat (IntKind.i64.wrap (g b - g c)), .no)
  else if op = 5 then some (pc, rs.set a.toNat (IntKind.i64.wrap (g b * g c)), .no)
  else if op = 6 then some (pc, rs.set a.toNat (bitI (decide (g b < g c))), .no)
  else if op = 7 then some (pc, rs.set a.toNat (bitI (decide (g b = g c))), .no)
  else if op = 8 then some (pc, rs.set a.toNat (rd b), .no)
  else if op = 9 then some (pc, rs, .put a (g b))
  else if op = 10 then (if g b < 0 ∨ (m : Int) ≤ g b then none else some (pc, rs.set a.toNat (rd (g b)), .no))
  else if op = 11 then (if g a < 0 ∨ (m : Int) ≤ g a then none else some (pc, rs, .put (g a) (g b)))
  else if op = 13 then (if rd a = g b then some (pc, rs.set b.toNat 1, .swap a (g c)) else some (pc, rs.set b.toNat 0, .no))
  else if op = 14 then some (a.toNat, rs, .no)
  else if op = 15 then (if g a = 0 then some (b.toNat, rs, .no) else some (pc, rs, .no))
  else if op = 16 then some (pc, rs, .say (g a))
  else if op = 17 then some (pc, rs, .take a)
  else if op = 18 then (if fr a then some (pc, rs, .free a) else none)
  else some (pc, rs, .no)
/-- A thread may free a lock: it has it, and has not freed it yet. -/
def freesW (s : Sx) (t : Nat) (a : Int) : Bool := decide (s.own.getD a.toNat 0 = (t : Int)) && !((thOf s t).wait.any fun x => x.lk && decide (x.wh = a))
def actX (mode : Int) (s : Sx) (t : Nat) : Ak → Sx
  | .no => s
  | .put a v => storeW mode s t ⟨false, a, v⟩
  | .free a => storeW mode s t ⟨true, a, 0⟩
  | .take a => { s with own := s.own.set a.toNat t }
  | .swap a v => { s with words := s.words.set a.toNat v }
  | .say v => { s with prints := s.prints ++ [(t : Int), v] }
/-- What an order makes of a state, by what it makes of its thread. -/
def effS (mode : Int) (s : Sx) (t : Nat) : Option (Nat × List Int × Ak) → Sx
  | none => fallX (setTh s t { thOf s t with pc := (thOf s t).pc + 1 })
  | some (p, r, k) => actX mode (setTh s t ⟨p, r, (thOf s t).wait⟩) t k
def effT (X : Nat → Nat → Nat → Int) (s : Sx) (t : Nat) : Option (Nat × List Int × Ak) :=
  effX ((thOf s t).pc + 1) (thOf s t).regs (findsW s t) (freesW s t) s.words.length (opT X s t 0) (opT X s t 1) (opT X s t 2) (opT X s t 3)
theorem findsW_bare {s : Sx} {t : Nat} (h : (thOf s t).wait = []) (wd : Int) : findsW s t wd = s.words.getD wd.toNat 0 := by
  unfold findsW; rw [h]; rfl
theorem do_ord {X : Nat → Nat → Nat → Int} {mode : Int} {s : Sx} {t : Nat} : doX X mode s (8 * t) = orderX mode (setTh s t { thOf s t with pc := (thOf s t).pc + 1 }) t (opT X s t 0) (opT X s t 1) (opT X s t 2) (opT X s t 3) := by
  unfold doX
  simp only [show 8 * t / 8 = t by omega, show 8 * t % 8 = 0 by omega]
  rw [if_neg (by omega)]
  rfl
theorem do_eff {X : Nat → Nat → Nat → Int} {mode : Int} {s : Sx} {t : Nat} (ht : t < s.ths.length) (h13 : opT X s t 0 = 13 → (thOf s t).wait = []) : doX X mode s (8 * t) = effS mode s t (effT X s t) := by
  rw [do_ord]
  unfold effT
  obtain ⟨op, hop⟩ : ∃ x, opT X s t 0 = x := ⟨_, rfl⟩
  obtain ⟨a, ha⟩ : ∃ x, opT X s t 1 = x := ⟨_, rfl⟩
  obtain ⟨b, hb⟩ : ∃ x, opT X s t 2 = x := ⟨_, rfl⟩
  obtain ⟨c, hc⟩ : ∃ x, opT X s t 3 = x := ⟨_, rfl⟩
  rw [hop] at h13
  rw [hop, ha, hb, hc]
  clear hop ha hb hc
  obtain ⟨p, hp⟩ : ∃ p, (thOf s t).pc + 1 = p := ⟨_, rfl⟩
  have e1 : thOf (setTh s t { thOf s t with pc := p }) t = { thOf s t with pc := p } := th_set ht _
  have e2 : ∀ x, setTh (setTh s t { thOf s t with pc := p }) t x = setTh s t x := fun x => set_set _ _ _ _
  have e3 : ∀ wd, findsW (setTh s t { thOf s t with pc := p }) t wd = findsW s t wd := fun wd => by
    unfold findsW; rw [e1]; rfl
  have e4 : ∀ r, getR (setTh s t { thOf s t with pc := p }) t r = (thOf s t).regs.getD r.toNat 0 := fun r => by
    unfold getR; rw [e1]
  have e5 : ∀ r v, setR (setTh s t { thOf s t with pc := p }) t r v = setTh s t ⟨p, (thOf s t).regs.set r.toNat v, (thOf s t).wait⟩ := fun r v => by
    unfold setR; rw [e2, e1]
  have e6 : ∀ x, storeW mode (setTh s t { thOf s t with pc := p }) t x = storeW mode (setTh s t ⟨p, (thOf s t).regs, (thOf s t).wait⟩) t x := fun x => rfl
  unfold orderX effX
  rw [hp]
  simp only [e4, e5, e3, e1, e2]
  have hw : (setTh s t { thOf s t with pc := p }).words = s.words := rfl
  have ho : (setTh s t { thOf s t with pc := p }).own = s.own := rfl
  have hq : (setTh s t { thOf s t with pc := p }).prints = s.prints := rfl
  rw [hw, ho, hq]
  have e7 : ∀ l r v, setR { setTh s t { thOf s t with pc := p } with words := l } t r v = { setTh s t ⟨p, (thOf s t).regs.set r.toNat v, (thOf s t).wait⟩ with words := l } := fun l r v => by
    have h : setR { setTh s t { thOf s t with pc := p } with words := l } t r v = { setR (setTh s t { thOf s t with pc := p }) t r v with words := l } := rfl
    rw [h, e5]
  clear hw ho hq e1 e2 e3 e4 e5 e6
  rcases op_cases op with h | rfl | rfl | rfl | rfl | rfl | rfl | rfl | rfl | rfl | rfl | rfl | rfl | rfl | rfl | rfl | rfl | rfl | rfl
  · repeat rw [if_neg (by omega)]
    rfl
  all_goals simp only [Int.reduceEq, ↓reduceIte]
  all_goals first
    | rfl
    | skip
  · split
    · show fallX _ = fallX _
      rw [hp]
    · rfl
  · split
    · show fallX _ = fallX _
      rw [hp]
    · rfl
  · rw [findsW_bare (h13 rfl)]
    split
    · exact e7 _ _ _
    · rfl
  · split <;> rfl
  · unfold freesW
    by_cases h1 : s.own.getD a.toNat 0 = (t : Int)
    · cases h2 : (thOf s t).wait.any fun x => x.lk && decide (x.wh = a)
      · rw [if_neg (fun h => h.elim (fun h => h h1) (fun h => Bool.noConfusion h))]
        simp only [h1, decide_true, Bool.not_false, Bool.and_self, ↓reduceIte]
        rfl
      · rw [if_pos (Or.inr rfl)]
        simp only [Bool.not_true, Bool.and_false, Bool.false_eq_true, ↓reduceIte]
        show fallX _ = fallX _
        rw [hp]
    · rw [if_pos (Or.inl h1)]
      simp only [h1, decide_false, Bool.false_and, Bool.false_eq_true, ↓reduceIte]
      show fallX _ = fallX _
      rw [hp]
end

section
open Go.RowKit

theorem mem_order {L : Nat → Nat} {X : Nat → Nat → Nat → Int} {mode : Int} {s : Sx} {t : Nat} (ht : t < s.ths.length) (ha : ableT L X s t = true) : (8 * (t : Int)) ∈ movesX L X mode s := by
  unfold movesX
  rw [List.mem_flatMap]
  refine ⟨t, by simpa using ht, ?_⟩
  unfold movesT
  rw [ha]
  simp
theorem do_nat {X : Nat → Nat → Nat → Int} {mode : Int} {s : Sx} {t : Nat} : doX X mode s (8 * (t : Int)).toNat = doX X mode s (8 * t) := by
  rw [show (8 * (t : Int)).toNat = 8 * t by omega]
theorem able_13 {L : Nat → Nat} {X : Nat → Nat → Nat → Int} {s : Sx} {t : Nat} (ha : ableT L X s t = true) (ho : opT X s t 0 = 12 ∨ opT X s t 0 = 13 ∨ opT X s t 0 = 17) : (thOf s t).wait = [] := by
  unfold ableT at ha
  split at ha
  · cases ha
  · rw [if_neg (by omega)] at ha
    rcases ho with e | e | e
    · rw [if_pos (Or.inl e)] at ha
      exact List.length_eq_zero_iff.mp (by simpa using ha)
    · rw [if_pos (Or.inr e)] at ha
      exact List.length_eq_zero_iff.mp (by simpa using ha)
    · rw [if_neg (by omega), if_pos e] at ha
      simp only [Bool.and_eq_true, decide_eq_true_eq] at ha
      exact List.length_eq_zero_iff.mp ha.1
theorem eff_fell {mode : Int} {s : Sx} {t : Nat} {o : Option (Nat × List Int × Ak)} (hs : s.fell = false) : (effS mode s t o).fell = o.isNone := by
  cases o with
  | none => rfl
  | some q =>
    obtain ⟨p, r, k⟩ := q
    show (actX mode _ t k).fell = false
    cases k <;> first
      | exact hs
      | skip
    all_goals
      show (storeW mode _ t _).fell = false
      unfold storeW doneW
      repeat' split
      all_goals exact hs
section
variable {n m lk rg : Nat} {L : Nat → Nat} {X : Nat → Nat → Nat → Int} {mode : Int} {s0 s : Sx} {B : List Int} {g : Nat → List (Wt × Bool)}
end
section
variable {n m lk rg : Nat} {L : Nat → Nat} {X : Nat → Nat → Nat → Int} {mode : Int} {s0 s : Sx} {B : List Int} {g : Nat → List (Wt × Bool)}
end
section
variable {n m lk rg : Nat} {L : Nat → Nat} {X : Nat → Nat → Nat → Int} {mode : Int} {s0 s : Sx} {B : List Int} {g : Nat → List (Wt × Bool)}
end
section
variable {n m lk rg : Nat} {L : Nat → Nat} {X : Nat → Nat → Nat → Int} {mode : Int} {s0 s : Sx} {B : List Int} {g : Nat → List (Wt × Bool)}
theorem mem_wait {s : Sx} {t : Nat} (ht : t < s.ths.length) (hw : (thOf s t).wait ≠ []) : movesX L X mode s ≠ [] := by
  intro e
  unfold movesX at e
  rw [List.flatMap_eq_nil_iff] at e
  have h1 := e t (by simpa using ht)
  unfold movesT at h1
  rw [List.append_eq_nil_iff] at h1
  have h2 := h1.2
  rw [List.map_eq_nil_iff, List.filter_eq_nil_iff] at h2
  have h3 : 0 < (thOf s t).wait.length := List.length_pos_iff.mpr hw
  have := h2 0 (by simpa using h3)
  exact this rfl
end
end

section
open Go.RowKit

/-- An order at its new place: the numbers that tell places tell the new ones. -/
structure MovO (pl : Nat → Nat) (op a b c op' a' b' c' : Int) : Prop where
  o : op' = op
  a : a' = if op = 14 then (pl a.toNat : Int) else a
  b : b' = if op = 15 then (pl b.toNat : Int) else b
  c : c' = c
theorem eff_mov {pl : Nat → Nat} {op a b c op' a' b' c' : Int} (h : MovO pl op a b c op' a' b' c') (pc : Nat) (rs : List Int) (rd : Int → Int) (fr : Int → Bool) (m : Nat) :
    effX (pl pc) rs rd fr m op' a' b' c' = (effX pc rs rd fr m op a b c).map fun x => (pl x.1, x.2) := by
  obtain ⟨rfl, rfl, rfl, rfl⟩ := h
  unfold effX
  rcases op_cases op' with h | rfl | rfl | rfl | rfl | rfl | rfl | rfl | rfl | rfl | rfl | rfl | rfl | rfl | rfl | rfl | rfl | rfl | rfl
  · repeat rw [if_neg (by omega)]
    rfl
  all_goals simp only [Int.reduceEq, ↓reduceIte, Option.map_some]
  all_goals first
    | rfl
    | (split <;> rfl)
theorem moves_nil {L : Nat → Nat} {X : Nat → Nat → Nat → Int} {mode : Int} {s : Sx} : movesX L X mode s = [] ↔ ∀ t, t < s.ths.length → ableT L X s t = false ∧ (thOf s t).wait = [] := by
  constructor
  · intro h t ht
    refine ⟨?_, Classical.byContradiction fun hne => mem_wait ht hne h⟩
    cases e : ableT L X s t with
    | false => rfl
    | true =>
      have := mem_order (mode := mode) ht e
      rw [h] at this
      cases this
  · intro h
    unfold movesX
    rw [List.flatMap_eq_nil_iff]
    intro t ht
    obtain ⟨h1, h2⟩ := h t (by simpa using ht)
    unfold movesT
    rw [h1, h2]
    rfl
theorem rch_ord {L : Nat → Nat} {X : Nat → Nat → Nat → Int} {mode : Int} {s0 s : Sx} (h : Rch (nxX L X mode) s0 s) {t : Nat} (ht : t < s.ths.length) (ha : ableT L X s t = true) (hf : (doX X mode s (8 * t)).fell = false) : Rch (nxX L X mode) s0 (doX X mode s (8 * t)) :=
  h.step (mem_nx.mpr ⟨8 * (t : Int), mem_order ht ha, do_nat, hf⟩)
theorem outs_end {L : Nat → Nat} {X : Nat → Nat → Nat → Int} {mode : Int} {s : Sx} (h : movesX L X mode s = []) : (⟨if endedX L s then 0 else 2, s.words, s.prints⟩ : Oc) ∈ outsX L X mode s := by
  unfold outsX
  rw [if_pos h, List.mem_append]
  exact Or.inl (by simp)
theorem outs_fall {L : Nat → Nat} {X : Nat → Nat → Nat → Int} {mode : Int} {s : Sx} {t : Nat} (ht : t < s.ths.length) (ha : ableT L X s t = true) (he : effT X s t = none) : (⟨1, [], s.prints⟩ : Oc) ∈ outsX L X mode s := by
  unfold outsX
  rw [List.mem_append, List.mem_filterMap]
  refine Or.inr ⟨8 * (t : Int), mem_order ht ha, ?_⟩
  rw [do_nat, do_eff ht (fun e => able_13 ha (Or.inr (Or.inl e))), he]
  rfl
/-- What runs come to: none can go on, or one falls. -/
theorem outs_cases {L : Nat → Nat} {X : Nat → Nat → Nat → Int} {mode : Int} {s : Sx} (hf : s.fell = false) (hwl : ∀ t, t < s.ths.length → (thOf s t).wait.length ≤ 3) {o : Oc} (h : o ∈ outsX L X mode s) :
    (movesX L X mode s = [] ∧ o = ⟨if endedX L s then 0 else 2, s.words, s.prints⟩) ∨ ∃ t, t < s.ths.length ∧ ableT L X s t = true ∧ effT X s t = none ∧ o = ⟨1, [], s.prints⟩ := by
  unfold outsX at h
  rw [List.mem_append] at h
  rcases h with h | h
  · by_cases e : movesX L X mode s = []
    · rw [if_pos e] at h
      exact Or.inl ⟨e, by simpa using h⟩
    · rw [if_neg e] at h; cases h
  · rw [List.mem_filterMap] at h
    obtain ⟨mv, hmv, ho⟩ := h
    split at ho
    · rename_i hfe
      cases ho
      rcases movesX_mem hmv with ⟨t, ht, rfl, ha⟩ | ⟨t, k, ht, hk2, rfl, hmay⟩
      · have e13 : opT X s t 0 = 13 → (thOf s t).wait = [] := fun e => able_13 ha (Or.inr (Or.inl e))
        rw [do_nat, do_eff ht e13] at hfe ⊢
        rw [eff_fell hf] at hfe
        have heff : effT X s t = none := by
          cases e : effT X s t with
          | none => rfl
          | some q => rw [e] at hfe; cases hfe
        refine Or.inr ⟨t, ht, ha, heff, ?_⟩
        rw [heff]
        rfl
      · have hk3 := hwl t ht
        rw [show (8 * (t : Int) + (k : Int) + 1).toNat = 8 * t + k + 1 by omega, fell_wait (by omega), hf] at hfe
        cases hfe
    · cases ho
/-- What a state can become: a thread does its order, or one that waits is done. -/
theorem nx_cases {L : Nat → Nat} {X : Nat → Nat → Nat → Int} {mode : Int} {s r : Sx} (hf : s.fell = false) (hwl : ∀ t, t < s.ths.length → (thOf s t).wait.length ≤ 3) (h : r ∈ nxX L X mode s) :
    (∃ t p rs k, t < s.ths.length ∧ ableT L X s t = true ∧ effT X s t = some (p, rs, k) ∧ r = actX mode (setTh s t ⟨p, rs, (thOf s t).wait⟩) t k) ∨
    ∃ t k, t < s.ths.length ∧ k < (thOf s t).wait.length ∧ mayW mode (thOf s t).wait k = true ∧ r = setTh (doneW s ((thOf s t).wait.getD k default)) t { thOf s t with wait := (thOf s t).wait.eraseIdx k } := by
  obtain ⟨mv, hmv, rfl, hfe⟩ := mem_nx.mp h
  rcases movesX_mem hmv with ⟨t, ht, rfl, ha⟩ | ⟨t, k, ht, hk2, rfl, hmay⟩
  · have e13 : opT X s t 0 = 13 → (thOf s t).wait = [] := fun e => able_13 ha (Or.inr (Or.inl e))
    rw [do_nat, do_eff ht e13] at hfe ⊢
    rw [eff_fell hf] at hfe
    cases e : effT X s t with
    | none => rw [e] at hfe; cases hfe
    | some q =>
      obtain ⟨p, rs, k⟩ := q
      exact Or.inl ⟨t, p, rs, k, ht, ha, e, rfl⟩
  · have hk3 := hwl t ht
    refine Or.inr ⟨t, k, ht, hk2, hmay, ?_⟩
    rw [show (8 * (t : Int) + (k : Int) + 1).toNat = 8 * t + k + 1 by omega, doX_wait (by omega)]
/-- A step by a thread's order. -/
theorem rch_eff {L : Nat → Nat} {X : Nat → Nat → Nat → Int} {mode : Int} {s0 s : Sx} (h : Rch (nxX L X mode) s0 s) (hf : s.fell = false) {t : Nat} (ht : t < s.ths.length) (ha : ableT L X s t = true) {p : Nat} {rs : List Int} {k : Ak} (he : effT X s t = some (p, rs, k)) : Rch (nxX L X mode) s0 (actX mode (setTh s t ⟨p, rs, (thOf s t).wait⟩) t k) := by
  have e1 := do_eff (mode := mode) ht (fun e => able_13 ha (Or.inr (Or.inl e)))
  rw [he] at e1
  have := rch_ord h ht ha (by rw [e1, eff_fell hf]; rfl)
  rw [e1] at this
  exact this
end

section
open Go.RowKit

theorem ended_eq {L L' : Nat → Nat} {A S : Sx} (hl : S.ths.length = A.ths.length) (h : ∀ t, t < A.ths.length → endedT L' S t = endedT L A t ∧ (thOf S t).wait = (thOf A t).wait) : endedX L' S = endedX L A := by
  unfold endedX
  rw [hl]
  apply Bool.eq_iff_iff.mpr
  rw [List.all_eq_true, List.all_eq_true]
  constructor
  · intro h1 t ht
    have h2 := h1 t ht
    have := h t (by simpa using ht)
    rw [this.1, this.2] at h2
    exact h2
  · intro h1 t ht
    have h2 := h1 t ht
    have := h t (by simpa using ht)
    rw [this.1, this.2]
    exact h2
section
variable {n m lk rg : Nat} {L L' : Nat → Nat} {X X' : Nat → Nat → Nat → Int} {pl : Nat → Nat → Nat} {mode : Int}
end
end

section
open Go.RowKit

section
variable {n m lk rg : Nat} {L L' : Nat → Nat} {X X' : Nat → Nat → Nat → Int} {pl : Nat → Nat → Nat} {mode : Int} {D : Nat → Nat → Bool} {W M : Nat → Nat → Prop}
theorem mem_moves {s : Sx} {t k : Nat} (ht : t < s.ths.length) (hk : k < (thOf s t).wait.length) (hm : mayW mode (thOf s t).wait k = true) : (8 * (t : Int) + (k : Int) + 1) ∈ movesX L X mode s := by
  unfold movesX
  rw [List.mem_flatMap]
  refine ⟨t, by simpa using ht, ?_⟩
  unfold movesT
  rw [List.mem_append, List.mem_map]
  refine Or.inr ⟨k, ?_, rfl⟩
  rw [List.mem_filter]
  exact ⟨by simpa using hk, hm⟩
theorem rch_finK {s0 s : Sx} (h : Rch (nxX L X mode) s0 s) (hf : s.fell = false) {t k : Nat} (ht : t < s.ths.length) (hk : k < (thOf s t).wait.length) (h3 : (thOf s t).wait.length ≤ 3) (hm : mayW mode (thOf s t).wait k = true) : Rch (nxX L X mode) s0 (setTh (doneW s ((thOf s t).wait.getD k default)) t { thOf s t with wait := (thOf s t).wait.eraseIdx k }) := by
  have e := doX_wait (X := X) (mode := mode) (s := s) (t := t) (k := k) (by omega)
  rw [← e]
  exact h.step (mem_nx.mpr ⟨_, mem_moves ht hk hm, by rw [show (8 * (t : Int) + (k : Int) + 1).toNat = 8 * t + k + 1 by omega], (fell_wait (by omega)).trans hf⟩)
end
end

section
open Go.RowKit

/-- A list of outcomes lies in w. -/
def OsIn (w : World) (a : Option Addr) (l : List Oc) : Prop := ∀ i, i < l.length → ∃ b o wa wc pa pc, a = some ⟨b, o, none⟩ ∧ w.cell? ⟨b, o + i * 3, none⟩ = some (.int .i64 (l.getD i default).st) ∧ w.cell? ⟨b, o + i * 3 + 1, none⟩ = some (.slice wa (l.getD i default).ws.length wc) ∧ w.cell? ⟨b, o + i * 3 + 2, none⟩ = some (.slice pa (l.getD i default).pr.length pc) ∧ LI w wa (l.getD i default).ws ∧ LI w pa (l.getD i default).pr
theorem OsIn.below {w w' : World} {a : Option Addr} {l : List Oc} (h : OsIn w a l) (hb : Below w.heap.size w w') : OsIn w' a l := fun i hi => by
  obtain ⟨b, o, wa, wc, pa, pc, h1, h2, h3, h4, h5, h6⟩ := h i hi
  exact ⟨b, o, wa, wc, pa, pc, h1, (hb.cell (lt_of_cell h2)).trans h2, (hb.cell (lt_of_cell h3)).trans h3, (hb.cell (lt_of_cell h4)).trans h4, IIn.below h5 hb, IIn.below h6 hb⟩
/-- Few outcomes, each with few words and prints. -/
def OBd (l : List Oc) : Prop := l.length ≤ 100000 ∧ ∀ o, o ∈ l → o.ws.length ≤ 100000 ∧ o.pr.length ≤ 100000
theorem OBd.at {l : List Oc} (h : OBd l) {i : Nat} (hi : i < l.length) : (l.getD i default).ws.length ≤ 100000 ∧ (l.getD i default).pr.length ≤ 100000 := by
  refine h.2 _ ?_
  rw [List.getD_eq_getElem?_getD, List.getElem?_eq_getElem hi]
  exact List.getElem_mem hi
theorem otake_ext {x y : List Oc} {k : Nat} (h : x.take k = y.take k) (h1 : k < x.length) (h2 : k < y.length) (e : x.getD k default = y.getD k default) : x.take (k + 1) = y.take (k + 1) := by
  rw [List.getD_eq_getElem?_getD, List.getD_eq_getElem?_getD, List.getElem?_eq_getElem h1, List.getElem?_eq_getElem h2] at e
  rw [List.take_add_one, List.take_add_one, h, List.getElem?_eq_getElem h1, List.getElem?_eq_getElem h2, show x[k] = y[k] from e]

set_option maxRecDepth 100000 in
set_option maxHeartbeats 3200000 in
theorem rsame_any (a b : Option Addr) (x y : List Oc) (c d : Nat) (hx : OBd x) (hy : OBd y) (w : World) (h : OsIn w a x) (h' : OsIn w b y) :
    Calls Tryd.prog 18 #[.slice a x.length c, .slice b y.length d] w fun e w' => e = .returned (.bool (decide (x = y))) ∧ Below w.heap.size w w' := by
  have hn := hx.1
  have hm := hy.1
  by_cases hl : x.length = y.length
  rotate_left
  · have HE : Hid (decide (x = y) = false) := decide_eq_false (fun e => hl (by rw [e]))
    have hl' : ¬ (x.length : Int) = y.length := by omega
    go_enter Tryd.func18, Tryd.ntmps18
    go_wp2
    go_ret
    exact ⟨congrArg (fun b => Ending.returned (.bool b)) HE.out.symm, Below.refl _ _⟩
  obtain ⟨n, hxl⟩ : ∃ n, x.length = n := ⟨_, rfl⟩
  have hyl : y.length = n := by omega
  have hn' : n ≤ 100000 := by omega
  have HX : Hid (OBd x ∧ OsIn w a x ∧ x.length = n) := ⟨hx, h, hxl⟩
  have HY : Hid (OBd y ∧ OsIn w b y ∧ y.length = n) := ⟨hy, h', hyl⟩
  rw [hxl, hyl]
  clear h h' hx hy hl hn hm hxl hyl
  go_enter Tryd.func18, Tryd.ntmps18
  go_wp2
  go_loopw [5] (fun i wr => ∃ k : Nat, k ≤ n ∧ Hid (x.take k = y.take k) ∧ i = .int .i64 k ∧ Below w.heap.size w wr) (fun i _ => n - (intOf i).toNat)
  case atStart => exact ⟨0, Nat.zero_le _, rfl, rfl, Below.refl _ _⟩
  case round =>
    obtain ⟨k, hk, ht, rfl, hbr⟩ := hrel
    by_cases hlt : k < n
    · obtain ⟨x1, x2, x3⟩ := HX.out
      obtain ⟨y1, y2, y3⟩ := HY.out
      have hu1 := x1.at (i := k) (by omega)
      have hv1 := y1.at (i := k) (by omega)
      obtain ⟨b1, o1, wa, wc, pa, pc, rfl, c0, c1, c2, l1, l2⟩ := x2.below hbr k (by omega)
      obtain ⟨b2, o2, va, vc, qa, qc, rfl, d0, d1, d2, m1, m2⟩ := y2.below hbr k (by omega)
      have HT : Hid (x.getD k default = y.getD k default → x.take (k + 1) = y.take (k + 1)) := fun e => otake_ext ht.out (by omega) (by omega) e
      have HF : Hid (x.getD k default ≠ y.getD k default → decide (x = y) = false) := fun e => decide_eq_false (fun e2 => e (by rw [e2]))
      obtain ⟨u, hu⟩ : ∃ u, x.getD k default = u := ⟨_, rfl⟩
      obtain ⟨v, hv⟩ : ∃ v, y.getD k default = v := ⟨_, rfl⟩
      rw [hu] at c0 c1 c2 l1 l2 HT HF hu1
      rw [hv] at d0 d1 d2 m1 m2 HT HF hv1
      clear hu hv x1 x2 x3 y1 y2 y3
      obtain ⟨us, uw, up⟩ := u
      obtain ⟨vs, vw, vp⟩ := v
      simp only at c0 c1 c2 l1 l2 d0 d1 d2 m1 m2 hu1 hv1
      have HI1 : Hid (∀ W, Below wr.heap.size wr W → Calls Tryd.prog 42 #[.slice wa uw.length wc, .slice va vw.length vc] W fun e w' => e = .returned (.bool (decide (uw = vw))) ∧ Below wr.heap.size wr w') := fun W hb => (rints_any wa va uw vw wc vc hu1.1 hv1.1 W (IIn.below l1 hb) (IIn.below m1 hb)).mono fun e w' g => ⟨g.1, hb.trans (g.2.mono hb.size)⟩
      have HI2 : Hid (∀ W, Below wr.heap.size wr W → Calls Tryd.prog 42 #[.slice pa up.length pc, .slice qa vp.length qc] W fun e w' => e = .returned (.bool (decide (up = vp))) ∧ Below wr.heap.size wr w') := fun W hb => (rints_any pa qa up vp pc qc hu1.2 hv1.2 W (IIn.below l2 hb) (IIn.below m2 hb)).mono fun e w' g => ⟨g.1, hb.trans (g.2.mono hb.size)⟩
      clear l1 l2 m1 m2 hu1 hv1
      go_wp2_with (fail)
      refine region_tail 10 (by kernel_rfl) (by kernel_rfl) ?_
      simp only [List.take_succ_cons, List.take_zero, List.drop_succ_cons, List.drop_zero]
      repeat still_step
      refine wpStill_nil ?_
      go_wp2_with (fail)
      refine Calls.mono (HI1.out _ (Below.refl _ _).drew) ?_
      rintro e w1 ⟨rfl, hb1⟩
      have e0 := (hb1.cell (lt_of_cell c0)).trans c0
      have e1 := (hb1.cell (lt_of_cell c2)).trans c2
      have f0 := (hb1.cell (lt_of_cell d0)).trans d0
      have f1 := (hb1.cell (lt_of_cell d2)).trans d2
      go_wp2_with (fail)
      refine region_tail 10 (by kernel_rfl) (by kernel_rfl) ?_
      simp only [List.take_succ_cons, List.take_zero, List.drop_succ_cons, List.drop_zero]
      repeat still_step
      refine wpStill_nil ?_
      go_wp2_with (fail)
      refine Calls.mono (HI2.out _ hb1.drew) ?_
      rintro e w2 ⟨rfl, hb2⟩
      have g0 := (hb2.cell (lt_of_cell c0)).trans c0
      have g1 := (hb2.cell (lt_of_cell d0)).trans d0
      have hB2 : Below w.heap.size w w2 := hbr.trans (hb2.mono hbr.size)
      clear c0 c1 c2 d0 d1 d2 e0 e1 f0 f1 hb1 hb2 HI1 HI2
      by_cases q1 : us = vs
      · subst q1
        by_cases q2 : uw = vw
        · subst q2
          by_cases q3 : up = vp
          · subst q3
            have ht' : Hid (x.take (k + 1) = y.take (k + 1)) := HT.out rfl
            clear HT HF
            go_wp2
            go_region
            all_goals go_wp2
            all_goals go_roundw
            case rel => exact ⟨k + 1, by omega, ht', by go_num, hB2.drew⟩
            case measure => simp [intOf]; omega
          · have HE : Hid (decide (x = y) = false) := HF.out (by simpa using q3)
            rw [decide_eq_false q3]
            clear HT HF q3
            go_wp2
            go_region
            all_goals go_wp2
            all_goals go_ret
            all_goals exact ⟨congrArg (fun b => Ending.returned (.bool b)) HE.out.symm, hB2.drew⟩
        · have HE : Hid (decide (x = y) = false) := HF.out (fun e => q2 (by simp only [Oc.mk.injEq] at e; exact e.2.1))
          rw [decide_eq_false q2]
          clear HT HF q2
          go_wp2
          go_region
          all_goals go_wp2
          all_goals go_ret
          all_goals exact ⟨congrArg (fun b => Ending.returned (.bool b)) HE.out.symm, hB2.drew⟩
      · have HE : Hid (decide (x = y) = false) := HF.out (fun e => q1 (by simp only [Oc.mk.injEq] at e; exact e.1))
        have q1' : (us != vs) = true := by simpa using q1
        obtain ⟨bw, hbw⟩ : ∃ b, decide (uw = vw) = b := ⟨_, rfl⟩
        obtain ⟨bp, hbp⟩ : ∃ b, decide (up = vp) = b := ⟨_, rfl⟩
        rw [hbw, hbp]
        clear HT HF q1 hbw hbp HX HY ht
        go_wp2
        go_region
        all_goals go_wp2
        all_goals go_ret
        all_goals exact ⟨congrArg (fun b => Ending.returned (.bool b)) HE.out.symm, hB2.drew⟩
    · have HE : Hid (decide (x = y) = true) := decide_eq_true (by
        have := ht.out
        rwa [List.take_of_length_le (by rw [HX.out.2.2]; omega), List.take_of_length_le (by rw [HY.out.2.2]; omega)] at this)
      go_wp2
      go_ret
      exact ⟨congrArg (fun b => Ending.returned (.bool b)) HE.out.symm, hbr⟩
end

section
open Go.RowKit

/-- The document's Check, of every program that lies in memory. -/
theorem rcheck_any (ca : Option Addr) (n cc : Nat) (wa : Option Addr) (m wc : Nat) (lk rg : Int) (A : Nat → Option Addr) (L C : Nat → Nat) (X : Nat → Nat → Nat → Int) (x y z : Int) (HR : Hid (chk n L X m lk rg = (x, y, z))) (w : World) (hp : PIn w ca n A L C X) :
    Calls Tryd.prog 12 #[prgV ca n cc wa m wc lk rg] w fun e w' => e = .returned (ints3 x y z) ∧ Below w.heap.size w w' := by
  have h := HR.out
  unfold chk sizesE at h
  by_cases h1 : (n : Int) < 1 ∨ 4 < (n : Int) ∨ 64 < (m : Int)
  · simp only [h1, if_true] at h
    simp at h
    obtain ⟨rfl, rfl, rfl⟩ := h
    exact rcheck_size ca n cc wa m wc lk rg h1 w
  · by_cases h2 : lk < 0 ∨ 4 < lk ∨ rg < 1 ∨ 200 < rg
    · simp only [h1, h2, if_true, if_false] at h
      simp at h
      obtain ⟨rfl, rfl, rfl⟩ := h
      exact rcheck_range ca n cc wa m wc lk rg (by omega) (by omega) h2 w
    · simp only [h1, h2, if_false, ne_eq, not_true_eq_false] at h
      exact rcheck_go ca n cc wa m wc lk rg A L C X x y z (by omega) (by omega) (by omega) (by omega) h w hp
end

section
open Go.RowKit

theorem grown_block {w w' : World} {r : Option Nat} (h : w.grownBy w' r) {g : Nat} (hg : g < w.heap.size) (hne : r ≠ some g) : w'.heap[g]? = w.heap[g]? := h.block g hg (fun e => hne e.symm)
/-- A row stays where another one grows. -/
theorem own_grown {w w' : World} {r : Option Nat} {B : Nat} {e : TypeId} {size : Nat} {v : Value} {n : Nat} {xs : List Value} (h : w.ownsRow B e size v n xs) (hg : w.grownBy w' r) (hne : ∀ g, v.ownBlock = some g → r ≠ some g) : w'.ownsRow B e size v n xs :=
  fam_keeps h fun g e => grown_block hg (h.lt g e).2 (hne g e)
theorem owns_two {W : World} {B B' : Nat} {e e' : TypeId} {size size' : Nat} {v v' : Value} {n n' : Nat} {xs xs' : List Value} (h : W.ownsRow B e size v n xs) (h' : W.ownsRow B' e' size' v' n' xs') (hne : e ≠ e') {g : Nat} (h1 : v.ownBlock = some g) : v'.ownBlock ≠ some g := fun h2 => by
  rcases h.2 with ⟨h0, _⟩ | ⟨g1, cap, cur, hv, _, hh, _⟩
  · rw [h0] at h1; simp [Value.ownBlock] at h1
  rcases h'.2 with ⟨h0, _⟩ | ⟨g2, cap2, cur2, hv2, _, hh2, _⟩
  · rw [h0] at h2; simp [Value.ownBlock] at h2
  rw [hv] at h1
  rw [hv2] at h2
  have e1 : g1 = g := by simpa [Value.ownBlock] using h1
  have e2 : g2 = g := by simpa [Value.ownBlock] using h2
  rw [e1] at hh
  rw [e2, hh] at hh2
  simp only [Option.some.injEq, Obj.cells.injEq] at hh2
  exact hne hh2.2.1
end

end Go.Proofs.YtkailbdjilkneaaDoor
