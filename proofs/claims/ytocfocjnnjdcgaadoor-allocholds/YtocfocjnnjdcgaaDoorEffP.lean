/-
  What an order makes of its thread, parted from what it does to words, locks and prints: plain functions.
  Without clashes what waits cannot be seen: each outcome with stores that wait, in order or passing each other, is one without. Plain functions.
  Orders that are moved to other places; what orders let wait; what runs come to: plain functions.
  WITH A FENCE BEHIND EACH STORE nothing that waits is seen: the outcomes are those of the plain program without stores that wait. Plain functions.
  One program does what another one does, but for steps that none sees: their runs come to the same. Plain functions, every machine.
  What chapter 14 says of values that are always the same: the least solution, and the passes that find it.
  All outcomes of a program, by the document: Make.
  What is told of a program with less to do: the same outcomes; and it may be.
  Orders anew, as plain functions: what each becomes, where it lies, that it may be; where something may wait.
-/
import Derived.Test.YtocfocjnnjdcgaaDoorSpaceP
import Derived.Test.YtocfocjnnjdcgaaDoorRDo5
import Derived.Test.YtocfocjnnjdcgaaDoorLivP
import Derived.Test.YtocfocjnnjdcgaaDoorRunP
import Derived.Test.YtocfocjnnjdcgaaDoorZBy2
import Derived.Test.YtocfocjnnjdcgaaDoorCOkP
namespace Go.Proofs.YtocfocjnnjdcgaaDoor
section
open Go.RowKit

/-- What an order does besides to its thread's registers and place. -/
inductive Ak where
  | no
  | put (a v : Int)
  | free (a : Int)
  | take (a : Int)
  | swap (a v : Int)
  | say (v : Int)
deriving DecidableEq, Inhabited
/-- What an order makes of a thread that stands behind it: none: the run falls. rd: what it finds in a word; fr: may it free a lock? -/
def effX (pc : Nat) (rs : List Int) (rd : Int → Int) (fr : Int → Bool) (m : Nat) (op a b c : Int) : Option (Nat × List Int × Ak) :=
  let g : Int → Int := fun r => rs.getD r.toNat 0
  if op = 1 then some (pc, rs.set a.toNat b, .no)
  else if op = 2 then some (pc, rs.set a.toNat (g b), .no)
  else if op = 3 then some (pc, rs.set a.toNat (IntKind.i64.wrap (g b + g c)), .no)
  else if op = 4 then some (pc, rs.set a.toNat (IntKind.i64.wrap (g b - g c)), .no)
  else if op = 5 then some (pc, rs.set a.toNat (IntKind.i64.wrap (g b * g c)), .no)
  else if op = 6 then some (pc, rs.set a.toNat (bitI (decide (g b < g c))), .no)
  else if op = 7 then some (pc, rs.set a.toNat (bitI (decide (g b = g c))), .no)
  else if op = 8 then some (pc, rs.set a.toNat (rd b), .no)
  else if op = 9 then some (pc, rs, .put a (g b))
  else if op = 10 then (if g b < 0 ∨ (m : Int) ≤ g b then none else some (pc, rs.set a.toNat (rd (g b)), .no))
  else if op = 11 then (if g a < 0 ∨ (m : Int) ≤ g a then none else some (pc, rs, .put (g a) (g b)))
  else if op = 13 then (if rd a = g b then some (pc, rs.set b.toNat 1, .swap a (g c)) else some (pc, rs.set b.toNat 0, .no))
  else if op = 14 then some (a.toNat, rs, .no)
  else if op = 15 then (if g a = 0 then some (b.toNat, rs, .no) else some (pc, rs, .no))
  else if op = 16 then some (pc, rs, .say (g a))
  else if op = 17 then some (pc, rs, .take a)
  else if op = 18 then (if fr a then some (pc, rs, .free a) else none)
  else some (pc, rs, .no)
/-- A thread may free a lock: it has it, and has not freed it yet. -/
def freesW (s : Sx) (t : Nat) (a : Int) : Bool := decide (s.own.getD a.toNat 0 = (t : Int)) && !((thOf s t).wait.any fun x => x.lk && decide (x.wh = a))
def actX (mode : Int) (s : Sx) (t : Nat) : Ak → Sx
  | .no => s
  | .put a v => storeW mode s t ⟨false, a, v⟩
  | .free a => storeW mode s t ⟨true, a, 0⟩
  | .take a => { s with own := s.own.set a.toNat t }
  | .swap a v => { s with words := s.words.set a.toNat v }
  | .say v => { s with prints := s.prints ++ [(t : Int), v] }
/-- What an order makes of a state, by what it makes of its thread. -/
def effS (mode : Int) (s : Sx) (t : Nat) : Option (Nat × List Int × Ak) → Sx
  | none => fallX (setTh s t { thOf s t with pc := (thOf s t).pc + 1 })
  | some (p, r, k) => actX mode (setTh s t ⟨p, r, (thOf s t).wait⟩) t k
def effT (X : Nat → Nat → Nat → Int) (s : Sx) (t : Nat) : Option (Nat × List Int × Ak) :=
  effX ((thOf s t).pc + 1) (thOf s t).regs (findsW s t) (freesW s t) s.words.length (opT X s t 0) (opT X s t 1) (opT X s t 2) (opT X s t 3)
theorem findsW_bare {s : Sx} {t : Nat} (h : (thOf s t).wait = []) (wd : Int) : findsW s t wd = s.words.getD wd.toNat 0 := by
  unfold findsW; rw [h]; rfl
theorem do_ord {X : Nat → Nat → Nat → Int} {mode : Int} {s : Sx} {t : Nat} : doX X mode s (8 * t) = orderX mode (setTh s t { thOf s t with pc := (thOf s t).pc + 1 }) t (opT X s t 0) (opT X s t 1) (opT X s t 2) (opT X s t 3) := by
  unfold doX
  simp only [show 8 * t / 8 = t by omega, show 8 * t % 8 = 0 by omega]
  rw [if_neg (by omega)]
  rfl
theorem do_eff {X : Nat → Nat → Nat → Int} {mode : Int} {s : Sx} {t : Nat} (ht : t < s.ths.length) (h13 : opT X s t 0 = 13 → (thOf s t).wait = []) : doX X mode s (8 * t) = effS mode s t (effT X s t) := by
  rw [do_ord]
  unfold effT
  obtain ⟨op, hop⟩ : ∃ x, opT X s t 0 = x := ⟨_, rfl⟩
  obtain ⟨a, ha⟩ : ∃ x, opT X s t 1 = x := ⟨_, rfl⟩
  obtain ⟨b, hb⟩ : ∃ x, opT X s t 2 = x := ⟨_, rfl⟩
  obtain ⟨c, hc⟩ : ∃ x, opT X s t 3 = x := ⟨_, rfl⟩
  rw [hop] at h13
  rw [hop, ha, hb, hc]
  clear hop ha hb hc
  obtain ⟨p, hp⟩ : ∃ p, (thOf s t).pc + 1 = p := ⟨_, rfl⟩
  have e1 : thOf (setTh s t { thOf s t with pc := p }) t = { thOf s t with pc := p } := th_set ht _
  have e2 : ∀ x, setTh (setTh s t { thOf s t with pc := p }) t x = setTh s t x := fun x => set_set _ _ _ _
  have e3 : ∀ wd, findsW (setTh s t { thOf s t with pc := p }) t wd = findsW s t wd := fun wd => by
    unfold findsW; rw [e1]; rfl
  have e4 : ∀ r, getR (setTh s t { thOf s t with pc := p }) t r = (thOf s t).regs.getD r.toNat 0 := fun r => by
    unfold getR; rw [e1]
  have e5 : ∀ r v, setR (setTh s t { thOf s t with pc := p }) t r v = setTh s t ⟨p, (thOf s t).regs.set r.toNat v, (thOf s t).wait⟩ := fun r v => by
    unfold setR; rw [e2, e1]
  have e6 : ∀ x, storeW mode (setTh s t { thOf s t with pc := p }) t x = storeW mode (setTh s t ⟨p, (thOf s t).regs, (thOf s t).wait⟩) t x := fun x => rfl
  unfold orderX effX
  rw [hp]
  simp only [e4, e5, e3, e1, e2]
  have hw : (setTh s t { thOf s t with pc := p }).words = s.words := rfl
  have ho : (setTh s t { thOf s t with pc := p }).own = s.own := rfl
  have hq : (setTh s t { thOf s t with pc := p }).prints = s.prints := rfl
  rw [hw, ho, hq]
  have e7 : ∀ l r v, setR { setTh s t { thOf s t with pc := p } with words := l } t r v = { setTh s t ⟨p, (thOf s t).regs.set r.toNat v, (thOf s t).wait⟩ with words := l } := fun l r v => by
    have h : setR { setTh s t { thOf s t with pc := p } with words := l } t r v = { setR (setTh s t { thOf s t with pc := p }) t r v with words := l } := rfl
    rw [h, e5]
  clear hw ho hq e1 e2 e3 e4 e5 e6
  rcases op_cases op with h | rfl | rfl | rfl | rfl | rfl | rfl | rfl | rfl | rfl | rfl | rfl | rfl | rfl | rfl | rfl | rfl | rfl | rfl
  · repeat rw [if_neg (by omega)]
    rfl
  all_goals simp only [Int.reduceEq, ↓reduceIte]
  all_goals first
    | rfl
    | skip
  · split
    · show fallX _ = fallX _
      rw [hp]
    · rfl
  · split
    · show fallX _ = fallX _
      rw [hp]
    · rfl
  · rw [findsW_bare (h13 rfl)]
    split
    · exact e7 _ _ _
    · rfl
  · split <;> rfl
  · unfold freesW
    by_cases h1 : s.own.getD a.toNat 0 = (t : Int)
    · cases h2 : (thOf s t).wait.any fun x => x.lk && decide (x.wh = a)
      · rw [if_neg (fun h => h.elim (fun h => h h1) (fun h => Bool.noConfusion h))]
        simp only [h1, decide_true, Bool.not_false, Bool.and_self, ↓reduceIte]
        rfl
      · rw [if_pos (Or.inr rfl)]
        simp only [Bool.not_true, Bool.and_false, Bool.false_eq_true, ↓reduceIte]
        show fallX _ = fallX _
        rw [hp]
    · rw [if_pos (Or.inl h1)]
      simp only [h1, decide_false, Bool.false_and, Bool.false_eq_true, ↓reduceIte]
      show fallX _ = fallX _
      rw [hp]
end

section
open Go.RowKit

theorem mem_order {L : Nat → Nat} {X : Nat → Nat → Nat → Int} {mode : Int} {s : Sx} {t : Nat} (ht : t < s.ths.length) (ha : ableT L X s t = true) : (8 * (t : Int)) ∈ movesX L X mode s := by
  unfold movesX
  rw [List.mem_flatMap]
  refine ⟨t, by simpa using ht, ?_⟩
  unfold movesT
  rw [ha]
  simp
theorem do_nat {X : Nat → Nat → Nat → Int} {mode : Int} {s : Sx} {t : Nat} : doX X mode s (8 * (t : Int)).toNat = doX X mode s (8 * t) := by
  rw [show (8 * (t : Int)).toNat = 8 * t by omega]
theorem able_13 {L : Nat → Nat} {X : Nat → Nat → Nat → Int} {s : Sx} {t : Nat} (ha : ableT L X s t = true) (ho : opT X s t 0 = 12 ∨ opT X s t 0 = 13 ∨ opT X s t 0 = 17) : (thOf s t).wait = [] := by
  unfold ableT at ha
  split at ha
  · cases ha
  · rw [if_neg (by omega)] at ha
    rcases ho with e | e | e
    · rw [if_pos (Or.inl e)] at ha
      exact List.length_eq_zero_iff.mp (by simpa using ha)
    · rw [if_pos (Or.inr e)] at ha
      exact List.length_eq_zero_iff.mp (by simpa using ha)
    · rw [if_neg (by omega), if_pos e] at ha
      simp only [Bool.and_eq_true, decide_eq_true_eq] at ha
      exact List.length_eq_zero_iff.mp ha.1
theorem eff_fell {mode : Int} {s : Sx} {t : Nat} {o : Option (Nat × List Int × Ak)} (hs : s.fell = false) : (effS mode s t o).fell = o.isNone := by
  cases o with
  | none => rfl
  | some q =>
    obtain ⟨p, r, k⟩ := q
    show (actX mode _ t k).fell = false
    cases k <;> first
      | exact hs
      | skip
    all_goals
      show (storeW mode _ t _).fell = false
      unfold storeW doneW
      repeat' split
      all_goals exact hs
section
variable {n m lk rg : Nat} {L : Nat → Nat} {X : Nat → Nat → Nat → Int} {mode : Int} {s0 s : Sx} {B : List Int} {g : Nat → List (Wt × Bool)}
end
section
variable {n m lk rg : Nat} {L : Nat → Nat} {X : Nat → Nat → Nat → Int} {mode : Int} {s0 s : Sx} {B : List Int} {g : Nat → List (Wt × Bool)}
end
section
variable {n m lk rg : Nat} {L : Nat → Nat} {X : Nat → Nat → Nat → Int} {mode : Int} {s0 s : Sx} {B : List Int} {g : Nat → List (Wt × Bool)}
end
section
variable {n m lk rg : Nat} {L : Nat → Nat} {X : Nat → Nat → Nat → Int} {mode : Int} {s0 s : Sx} {B : List Int} {g : Nat → List (Wt × Bool)}
theorem mem_wait {s : Sx} {t : Nat} (ht : t < s.ths.length) (hw : (thOf s t).wait ≠ []) : movesX L X mode s ≠ [] := by
  intro e
  unfold movesX at e
  rw [List.flatMap_eq_nil_iff] at e
  have h1 := e t (by simpa using ht)
  unfold movesT at h1
  rw [List.append_eq_nil_iff] at h1
  have h2 := h1.2
  rw [List.map_eq_nil_iff, List.filter_eq_nil_iff] at h2
  have h3 : 0 < (thOf s t).wait.length := List.length_pos_iff.mpr hw
  have := h2 0 (by simpa using h3)
  exact this rfl
end
end

section
open Go.RowKit

theorem moves_nil {L : Nat → Nat} {X : Nat → Nat → Nat → Int} {mode : Int} {s : Sx} : movesX L X mode s = [] ↔ ∀ t, t < s.ths.length → ableT L X s t = false ∧ (thOf s t).wait = [] := by
  constructor
  · intro h t ht
    refine ⟨?_, Classical.byContradiction fun hne => mem_wait ht hne h⟩
    cases e : ableT L X s t with
    | false => rfl
    | true =>
      have := mem_order (mode := mode) ht e
      rw [h] at this
      cases this
  · intro h
    unfold movesX
    rw [List.flatMap_eq_nil_iff]
    intro t ht
    obtain ⟨h1, h2⟩ := h t (by simpa using ht)
    unfold movesT
    rw [h1, h2]
    rfl
theorem rch_ord {L : Nat → Nat} {X : Nat → Nat → Nat → Int} {mode : Int} {s0 s : Sx} (h : Rch (nxX L X mode) s0 s) {t : Nat} (ht : t < s.ths.length) (ha : ableT L X s t = true) (hf : (doX X mode s (8 * t)).fell = false) : Rch (nxX L X mode) s0 (doX X mode s (8 * t)) :=
  h.step (mem_nx.mpr ⟨8 * (t : Int), mem_order ht ha, do_nat, hf⟩)
theorem outs_end {L : Nat → Nat} {X : Nat → Nat → Nat → Int} {mode : Int} {s : Sx} (h : movesX L X mode s = []) : (⟨if endedX L s then 0 else 2, s.words, s.prints⟩ : Oc) ∈ outsX L X mode s := by
  unfold outsX
  rw [if_pos h, List.mem_append]
  exact Or.inl (by simp)
theorem outs_fall {L : Nat → Nat} {X : Nat → Nat → Nat → Int} {mode : Int} {s : Sx} {t : Nat} (ht : t < s.ths.length) (ha : ableT L X s t = true) (he : effT X s t = none) : (⟨1, [], s.prints⟩ : Oc) ∈ outsX L X mode s := by
  unfold outsX
  rw [List.mem_append, List.mem_filterMap]
  refine Or.inr ⟨8 * (t : Int), mem_order ht ha, ?_⟩
  rw [do_nat, do_eff ht (fun e => able_13 ha (Or.inr (Or.inl e))), he]
  rfl
/-- What runs come to: none can go on, or one falls. -/
theorem outs_cases {L : Nat → Nat} {X : Nat → Nat → Nat → Int} {mode : Int} {s : Sx} (hf : s.fell = false) (hwl : ∀ t, t < s.ths.length → (thOf s t).wait.length ≤ 3) {o : Oc} (h : o ∈ outsX L X mode s) :
    (movesX L X mode s = [] ∧ o = ⟨if endedX L s then 0 else 2, s.words, s.prints⟩) ∨ ∃ t, t < s.ths.length ∧ ableT L X s t = true ∧ effT X s t = none ∧ o = ⟨1, [], s.prints⟩ := by
  unfold outsX at h
  rw [List.mem_append] at h
  rcases h with h | h
  · by_cases e : movesX L X mode s = []
    · rw [if_pos e] at h
      exact Or.inl ⟨e, by simpa using h⟩
    · rw [if_neg e] at h; cases h
  · rw [List.mem_filterMap] at h
    obtain ⟨mv, hmv, ho⟩ := h
    split at ho
    · rename_i hfe
      cases ho
      rcases movesX_mem hmv with ⟨t, ht, rfl, ha⟩ | ⟨t, k, ht, hk2, rfl, hmay⟩
      · have e13 : opT X s t 0 = 13 → (thOf s t).wait = [] := fun e => able_13 ha (Or.inr (Or.inl e))
        rw [do_nat, do_eff ht e13] at hfe ⊢
        rw [eff_fell hf] at hfe
        have heff : effT X s t = none := by
          cases e : effT X s t with
          | none => rfl
          | some q => rw [e] at hfe; cases hfe
        refine Or.inr ⟨t, ht, ha, heff, ?_⟩
        rw [heff]
        rfl
      · have hk3 := hwl t ht
        rw [show (8 * (t : Int) + (k : Int) + 1).toNat = 8 * t + k + 1 by omega, fell_wait (by omega), hf] at hfe
        cases hfe
    · cases ho
/-- What a state can become: a thread does its order, or one that waits is done. -/
theorem nx_cases {L : Nat → Nat} {X : Nat → Nat → Nat → Int} {mode : Int} {s r : Sx} (hf : s.fell = false) (hwl : ∀ t, t < s.ths.length → (thOf s t).wait.length ≤ 3) (h : r ∈ nxX L X mode s) :
    (∃ t p rs k, t < s.ths.length ∧ ableT L X s t = true ∧ effT X s t = some (p, rs, k) ∧ r = actX mode (setTh s t ⟨p, rs, (thOf s t).wait⟩) t k) ∨
    ∃ t k, t < s.ths.length ∧ k < (thOf s t).wait.length ∧ mayW mode (thOf s t).wait k = true ∧ r = setTh (doneW s ((thOf s t).wait.getD k default)) t { thOf s t with wait := (thOf s t).wait.eraseIdx k } := by
  obtain ⟨mv, hmv, rfl, hfe⟩ := mem_nx.mp h
  rcases movesX_mem hmv with ⟨t, ht, rfl, ha⟩ | ⟨t, k, ht, hk2, rfl, hmay⟩
  · have e13 : opT X s t 0 = 13 → (thOf s t).wait = [] := fun e => able_13 ha (Or.inr (Or.inl e))
    rw [do_nat, do_eff ht e13] at hfe ⊢
    rw [eff_fell hf] at hfe
    cases e : effT X s t with
    | none => rw [e] at hfe; cases hfe
    | some q =>
      obtain ⟨p, rs, k⟩ := q
      exact Or.inl ⟨t, p, rs, k, ht, ha, e, rfl⟩
  · have hk3 := hwl t ht
    refine Or.inr ⟨t, k, ht, hk2, hmay, ?_⟩
    rw [show (8 * (t : Int) + (k : Int) + 1).toNat = 8 * t + k + 1 by omega, doX_wait (by omega)]
/-- A step by a thread's order. -/
theorem rch_eff {L : Nat → Nat} {X : Nat → Nat → Nat → Int} {mode : Int} {s0 s : Sx} (h : Rch (nxX L X mode) s0 s) (hf : s.fell = false) {t : Nat} (ht : t < s.ths.length) (ha : ableT L X s t = true) {p : Nat} {rs : List Int} {k : Ak} (he : effT X s t = some (p, rs, k)) : Rch (nxX L X mode) s0 (actX mode (setTh s t ⟨p, rs, (thOf s t).wait⟩) t k) := by
  have e1 := do_eff (mode := mode) ht (fun e => able_13 ha (Or.inr (Or.inl e)))
  rw [he] at e1
  have := rch_ord h ht ha (by rw [e1, eff_fell hf]; rfl)
  rw [e1] at this
  exact this
end

section
open Go.RowKit

theorem ended_eq {L L' : Nat → Nat} {A S : Sx} (hl : S.ths.length = A.ths.length) (h : ∀ t, t < A.ths.length → endedT L' S t = endedT L A t ∧ (thOf S t).wait = (thOf A t).wait) : endedX L' S = endedX L A := by
  unfold endedX
  rw [hl]
  apply Bool.eq_iff_iff.mpr
  rw [List.all_eq_true, List.all_eq_true]
  constructor
  · intro h1 t ht
    have h2 := h1 t ht
    have := h t (by simpa using ht)
    rw [this.1, this.2] at h2
    exact h2
  · intro h1 t ht
    have h2 := h1 t ht
    have := h t (by simpa using ht)
    rw [this.1, this.2]
    exact h2
section
variable {n m lk rg : Nat} {L L' : Nat → Nat} {X X' : Nat → Nat → Nat → Int} {pl : Nat → Nat → Nat} {mode : Int}
end
end

section
open Go.RowKit

/-- How an order waits: behind stores that are full; while something waits; for a lock. -/
def abK (op : Int) : Nat := if op = 9 ∨ op = 11 ∨ op = 18 then 1 else if op = 12 ∨ op = 13 then 2 else if op = 17 then 3 else 0
section
variable {n m lk rg : Nat} {L L' : Nat → Nat} {X X' : Nat → Nat → Nat → Int} {mode : Int} {D : Nat → Nat → Bool} {mu : Nat → Nat → Nat} {Q : Nat → Nat → List Int → Nat → List Int → Prop} {A S : Sx}
theorem able_abK {s : Sx} {t : Nat} : ableT L X s t = (if endedT L s t then false else if abK (opT X s t 0) = 1 then decide ((thOf s t).wait.length < 3) else if abK (opT X s t 0) = 2 then decide ((thOf s t).wait.length = 0) else if abK (opT X s t 0) = 3 then decide ((thOf s t).wait.length = 0) && decide (s.own.getD (opT X s t 1).toNat 0 = -1) else true) := by
  unfold ableT abK
  cases endedT L s t with
  | true => rfl
  | false =>
    simp only [Bool.false_eq_true, ↓reduceIte]
    by_cases h1 : opT X s t 0 = 9 ∨ opT X s t 0 = 11 ∨ opT X s t 0 = 18
    · simp only [if_pos h1, ↓reduceIte]
    · simp only [if_neg h1]
      by_cases h2 : opT X s t 0 = 12 ∨ opT X s t 0 = 13
      · simp [if_pos h2]
      · simp only [if_neg h2]
        by_cases h3 : opT X s t 0 = 17
        · simp [if_pos h3]
        · simp [if_neg h3]
end
end

section
open Go.RowKit

/-- What is known of a value: it is not there; it is always the number; it is any. -/
inductive Vl
  | no
  | num (n : Int)
  | any
deriving DecidableEq, Inhabited
section
variable {X : Nat → Nat → Int} {l rg m lk : Nat} {E : Nat → Nat → Vl}
end

/-! How far all may still grow. -/
end

section
open Go.RowKit

theorem ens_osin {w : World} {a : Option Addr} {es : List En} (h : EIn w a es) (hok : ∀ x, x ∈ es → EnOk w x) : OsIn w a (es.map En.o) := fun i hi => by
  have hi' : i < es.length := by simpa using hi
  obtain ⟨b, o, h1, h2, h3, h4⟩ := h i hi'
  have hx := hok _ (show es.getD i default ∈ es by rw [List.getD_eq_getElem?_getD, List.getElem?_eq_getElem hi']; exact List.getElem_mem hi')
  rw [map_getD hi']
  exact ⟨b, o, _, _, _, _, h1, h2, h3, h4, hx.ws, hx.pr⟩
theorem ens_obd {w : World} {es : List En} (hn : es.length ≤ 100000) (hok : ∀ x, x ∈ es → EnOk w x) : OBd (es.map En.o) := by
  refine ⟨by simpa using hn, fun o ho => ?_⟩
  obtain ⟨x, hx, rfl⟩ := List.mem_map.mp ho
  exact ⟨(hok x hx).wl, (hok x hx).pl⟩
/-- What Make tells, with where the outcomes' lists lie. -/
def MakeE (w : World) (L : Nat → Nat) (X : Nat → Nat → Nat → Int) (mode : Int) (s0 : Sx) (e : Ending) (w' : World) : Prop :=
  ∃ pb full ea ec es, e = .returned (.pointer (some ⟨pb, 0, none⟩)) ∧ Told (nxX L X mode) (outsX L X mode) s0 4000 full (es.map En.o) ∧ w'.cell? ⟨pb, 4, none⟩ = some (.slice ea es.length ec) ∧ w'.cell? ⟨pb, 5, none⟩ = some (.bool full) ∧ EIn w' ea es ∧ (∀ x, x ∈ es → EnOk w' x ∧ x.o.ws.length ≤ x.wc) ∧ es.length ≤ 100000 ∧ Below w.heap.size w w'
/-- What By tells, as Make tells it. -/
theorem by_toldE (w : World) (ca : Option Addr) (n cc : Nat) (wa : Option Addr) (wc lk rg : Nat) (mode : Int) (words : List Int) (A : Nat → Option Addr) (L C : Nat → Nat) (X : Nat → Nat → Nat → Int) (hw : SIs w wa words) (hn0 : 0 < n) (hc : COk n L X words.length lk rg) (hp : PIn w ca n A L C X) (hm : 0 ≤ mode) :
    Calls Tryd.prog 46 #[prgV ca n cc wa words.length wc lk rg, .int .i64 mode] w (MakeE w L X mode (beginX n words lk rg)) := by
  obtain ⟨c, hcd⟩ : ∃ c : Bc, c = ⟨⟨ca, n, cc, wa, words.length, wc, lk, rg, mode⟩, A, L, C, X, words.length, lk, rg, beginX n words lk rg⟩ := ⟨_, rfl⟩
  have hok : BcOk c w := by rw [hcd]; exact ⟨hn0, hc, hp, hm⟩
  refine Calls.mono (by_any w ca n cc wa wc lk rg mode words A L C X c _ hcd rfl hw hok) ?_
  rintro e w' ⟨pb, v, d, ea, ec, es, i, N, rfl, h1, h2, h3⟩
  have ht := (h1.told h3).1
  have hcnt := h1.cnt
  have c4 := h1.sp.c4
  have c5 := h1.sp.c5
  rw [h1.ends] at c4
  have hlow := h1.low
  have hb0 : Below w.heap.size w (w.alloc (boxQ ca n cc wa words.length wc lk rg)) := (Below.refl _ _).alloc (Nat.le_refl _) _
  rw [hcd] at ht
  exact ⟨pb, d.full, ea, ec, es, rfl, ht, c4, c5, h1.ein.ein, fun x hx => ⟨(h1.eok x hx).ok, (h1.eok x hx).cap⟩, by omega, hb0.trans (hlow.mono (by simp))⟩
set_option maxRecDepth 100000 in
set_option maxHeartbeats 800000 in
/-- Make. -/
theorem make_anyE (w : World) (b : Bool) (ca : Option Addr) (n cc : Nat) (wa : Option Addr) (wc lk rg : Nat) (words : List Int) (A : Nat → Option Addr) (L C : Nat → Nat) (X : Nat → Nat → Nat → Int) (hw : SIs w wa words) (hn0 : 0 < n) (hc : COk n L X words.length lk rg) (hp : PIn w ca n A L C X) :
    Calls Tryd.prog 24 #[prgV ca n cc wa words.length wc lk rg, .bool b] w (MakeE w L X (if b then 1 else 0) (beginX n words lk rg)) := by
  have HBY : Hid (∀ V mode, 0 ≤ mode → Below w.heap.size w V → Calls Tryd.prog 46 #[prgV ca n cc wa words.length wc lk rg, .int .i64 mode] V (MakeE V L X mode (beginX n words lk rg))) := fun V mode hm hb => by
    exact by_toldE V ca n cc wa wc lk rg mode words A L C X (hw.below hb) hn0 hc (hp.below hb) hm
  have HUP : Hid (∀ V mode e w', Below w.heap.size w V → MakeE V L X mode (beginX n words lk rg) e w' → MakeE w L X mode (beginX n words lk rg) e w') := fun V mode e w' hb ⟨pb, full, ea, ec, l, h1, h2, h3, h4, h5, h6, h7, h8⟩ => ⟨pb, full, ea, ec, l, h1, h2, h3, h4, h5, h6, h7, hb.trans (h8.mono hb.size)⟩
  obtain ⟨q, hq⟩ : ∃ q : Sx, beginX n words lk rg = q := ⟨_, rfl⟩
  obtain ⟨m, hm⟩ : ∃ m, words.length = m := ⟨_, rfl⟩
  rw [hq, hm] at HBY ⊢
  rw [hq] at HUP
  have HBB : Hid (∀ o, Below w.heap.size w (w.alloc o)) := fun o => (Below.refl _ _).alloc (Nat.le_refl _) _
  clear hw hn0 hc hp hq hm
  cases b with
  | true =>
    go_enter Tryd.func24, Tryd.ntmps24
    go_wp2_with fail
    refine Calls.mono (HBY.out _ 1 (by decide) (HBB.out _)) ?_
    intro e w1 h1
    have h2 := HUP.out _ _ _ _ (HBB.out _) h1
    obtain ⟨pb, full, ea, ec, l, rfl, h3⟩ := h2
    have H3 := Hid.out (p := Hid _) h3
    clear h1 h3
    go_wp2_with fail
    go_ret
    exact ⟨pb, full, ea, ec, l, rfl, H3.out⟩
  | false =>
    go_enter Tryd.func24, Tryd.ntmps24
    go_wp2_with fail
    refine Calls.mono (HBY.out _ 0 (by decide) (HBB.out _)) ?_
    intro e w1 h1
    have h2 := HUP.out _ _ _ _ (HBB.out _) h1
    obtain ⟨pb, full, ea, ec, l, rfl, h3⟩ := h2
    have H3 := Hid.out (p := Hid _) h3
    clear h1 h3
    go_wp2_with fail
    go_ret
    exact ⟨pb, full, ea, ec, l, rfl, H3.out⟩
end

section
open Go.RowKit

theorem begin_at (n : Nat) (words : List Int) (lk rg : Nat) (t : Nat) (ht : t < n) : thOf (beginX n words (lk : Int) (rg : Int)) t = ⟨0, List.replicate rg 0, []⟩ := by
  unfold thOf beginX
  simp [List.getD, ht]
section
variable {n m lk rg : Nat} {L : Nat → Nat} {X : Nat → Nat → Nat → Int}
end
end

section
open Go.RowKit

theorem long_cases {L : Nat → Nat} : ∀ (f k : Nat), (firstThread (longR L) f k = (0, 0, 0) ∧ ∀ i, k ≤ i → i < k + f → L i ≤ 400) ∨ ∃ t, k ≤ t ∧ t < k + f ∧ firstThread (longR L) f k = (1, (t : Int), 0) ∧ 400 < L t ∧ ∀ i, k ≤ i → i < t → L i ≤ 400
  | 0, k => Or.inl ⟨rfl, fun i h1 h2 => absurd h2 (by omega)⟩
  | f + 1, k => by
    by_cases e : 400 < L k
    · refine Or.inr ⟨k, by omega, by omega, ?_, e, fun i h1 h2 => absurd h2 (by omega)⟩
      rw [firstThread]
      unfold longR
      rw [if_pos e]
    · have hk : longR L k = none := by unfold longR; rw [if_neg e]
      rw [firstThread, hk]
      simp only
      rcases long_cases f (k + 1) with ⟨h1, h2⟩ | ⟨t, h1, h2, h3, h4, h5⟩
      · refine Or.inl ⟨h1, fun i h3 h4 => ?_⟩
        by_cases e2 : i = k
        · rw [e2]; omega
        · exact h2 i (by omega) (by omega)
      · refine Or.inr ⟨t, by omega, by omega, h3, h4, fun i h6 h7 => ?_⟩
        by_cases e2 : i = k
        · rw [e2]; omega
        · exact h5 i (by omega) h7
end

end Go.Proofs.YtocfocjnnjdcgaaDoor
