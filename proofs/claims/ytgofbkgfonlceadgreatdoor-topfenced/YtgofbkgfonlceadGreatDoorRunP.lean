/-
  What the document says of runs, as plain functions: what waits, the state of a run, what can be picked, what a move does, a run's trace.
  Outcomes and their order; all that can be come to, and what is told of it: plain functions.
  A truth as a number, by the program.
-/
import Derived.Test.YtgofbkgfonlceadGreatDoorPlain
import Derived.WalkKit
import Derived.WalkSpells
import Derived.WalkLawsBesides
namespace Go.Proofs.YtgofbkgfonlceadGreatDoor
section
open Go.RowKit

/-- What waits: a store into a word, or that a lock becomes free. -/
structure Wt where
  lk : Bool
  wh : Int
  what : Int
deriving DecidableEq, Inhabited
/-- A thread of a run. -/
structure Th where
  pc : Nat
  regs : List Int
  wait : List Wt
deriving DecidableEq, Inhabited
/-- The state of a run. -/
structure Sx where
  ths : List Th
  words : List Int
  own : List Int
  prints : List Int
  fell : Bool
deriving DecidableEq, Inhabited

section
variable (L : Nat → Nat) (X : Nat → Nat → Nat → Int)

def thOf (s : Sx) (t : Nat) : Th := s.ths.getD t default
def endedT (s : Sx) (t : Nat) : Bool := decide (L t ≤ (thOf s t).pc)
def opT (s : Sx) (t q : Nat) : Int := X t (thOf s t).pc q
/-- Is a thread able to do its next order? -/
def ableT (s : Sx) (t : Nat) : Bool :=
  if endedT L s t then false
  else
    let k := (thOf s t).wait.length
    let op := opT X s t 0
    if op = 9 ∨ op = 11 ∨ op = 18 then decide (k < 3)
    else if op = 12 ∨ op = 13 then decide (k = 0)
    else if op = 17 then decide (k = 0) && decide (s.own.getD (opT X s t 1).toNat 0 = -1)
    else true
/-- May the k-th one that waits be done? -/
def mayW (mode : Int) (l : List Wt) (k : Nat) : Bool :=
  if k = 0 then true
  else if mode = 1 ∨ (l.getD k default).lk = true then false
  else (l.take k).all fun x => !(x.lk || decide (x.wh = (l.getD k default).wh))
/-- What can be picked. -/
def movesT (mode : Int) (s : Sx) (t : Nat) : List Int :=
  (if ableT L X s t then [8 * (t : Int)] else []) ++ ((List.range (thOf s t).wait.length).filter (fun k => mayW mode (thOf s t).wait k)).map fun (k : Nat) => 8 * (t : Int) + (k : Int) + 1
def movesX (mode : Int) (s : Sx) : List Int := (List.range s.ths.length).flatMap fun t => movesT L X mode s t
def endedX (s : Sx) : Bool := (List.range s.ths.length).all fun t => endedT L s t && (thOf s t).wait.isEmpty
def setTh (s : Sx) (t : Nat) (x : Th) : Sx := { s with ths := s.ths.set t x }
/-- One that waited is done. -/
def doneW (s : Sx) (x : Wt) : Sx := if x.lk then { s with own := s.own.set x.wh.toNat (-1) } else { s with words := s.words.set x.wh.toNat x.what }
def storeW (mode : Int) (s : Sx) (t : Nat) (x : Wt) : Sx :=
  if 0 < mode then setTh s t { thOf s t with wait := (thOf s t).wait ++ [x] } else doneW s x
/-- What a thread finds in a word. -/
def findsW (s : Sx) (t : Nat) (wd : Int) : Int :=
  match (thOf s t).wait.reverse.find? fun x => !x.lk && decide (x.wh = wd) with
  | some x => x.what
  | none => s.words.getD wd.toNat 0
def setR (s : Sx) (t : Nat) (r v : Int) : Sx := setTh s t { thOf s t with regs := (thOf s t).regs.set r.toNat v }
def getR (s : Sx) (t : Nat) (r : Int) : Int := (thOf s t).regs.getD r.toNat 0
def bitI (b : Bool) : Int := if b then 1 else 0
def fallX (s : Sx) : Sx := { s with fell := true }
/-- A thread's order op, with its numbers a, b, c; the thread stands behind it already. -/
def orderX (mode : Int) (s : Sx) (t : Nat) (op a b c : Int) : Sx :=
  if op = 1 then setR s t a b
  else if op = 2 then setR s t a (getR s t b)
  else if op = 3 then setR s t a (IntKind.i64.wrap (getR s t b + getR s t c))
  else if op = 4 then setR s t a (IntKind.i64.wrap (getR s t b - getR s t c))
  else if op = 5 then setR s t a (IntKind.i64.wrap (getR s t b * getR s t c))
  else if op = 6 then setR s t a (bitI (decide (getR s t b < getR s t c)))
  else if op = 7 then setR s t a (bitI (decide (getR s t b = getR s t c)))
  else if op = 8 then setR s t a (findsW s t b)
  else if op = 9 then storeW mode s t ⟨false, a, getR s t b⟩
  else if op = 10 then (if getR s t b < 0 ∨ (s.words.length : Int) ≤ getR s t b then fallX s else setR s t a (findsW s t (getR s t b)))
  else if op = 11 then (if getR s t a < 0 ∨ (s.words.length : Int) ≤ getR s t a then fallX s else storeW mode s t ⟨false, getR s t a, getR s t b⟩)
  else if op = 13 then (if s.words.getD a.toNat 0 = getR s t b then setR { s with words := s.words.set a.toNat (getR s t c) } t b 1 else setR s t b 0)
  else if op = 14 then setTh s t { thOf s t with pc := a.toNat }
  else if op = 15 then (if getR s t a = 0 then setTh s t { thOf s t with pc := b.toNat } else s)
  else if op = 16 then { s with prints := s.prints ++ [(t : Int), getR s t a] }
  else if op = 17 then { s with own := s.own.set a.toNat t }
  else if op = 18 then (if s.own.getD a.toNat 0 ≠ t ∨ ((thOf s t).wait.any fun x => x.lk && decide (x.wh = a)) = true then fallX s else storeW mode s t ⟨true, a, 0⟩)
  else s
/-- A move: eight times a thread's number: its order; k more: the k-th one that waits. -/
def doX (mode : Int) (s : Sx) (mv : Nat) : Sx :=
  let t := mv / 8
  let k := mv % 8
  if 0 < k then
    let s' := doneW s ((thOf s t).wait.getD (k - 1) default)
    setTh s' t { thOf s' t with wait := (thOf s' t).wait.eraseIdx (k - 1) }
  else
    let pc := (thOf s t).pc
    orderX mode (setTh s t { thOf s t with pc := pc + 1 }) t (X t pc 0) (X t pc 1) (X t pc 2) (X t pc 3)
end
/-- The state ahead of the first step. -/
def beginX (n : Nat) (words : List Int) (lk rg : Int) : Sx :=
  { ths := List.replicate n { pc := 0, regs := List.replicate rg.toNat 0, wait := [] }, words := words, own := List.replicate lk.toNat (-1), prints := [], fell := false }
end

section
open Go.RowKit

/-! Outcomes and their order. -/
/-- An outcome: how a run ended, the words, what was printed. -/
structure Oc where
  st : Int
  ws : List Int
  pr : List Int
deriving DecidableEq, Inhabited
/-- The order of lists. -/
def lexL : List Int → List Int → Bool
  | [], [] => false
  | [], _ :: _ => true
  | _ :: _, [] => false
  | a :: l, b :: r => if a = b then lexL l r else decide (a < b)
/-- The order of outcomes. -/
def aheadO (a b : Oc) : Bool := if a.st ≠ b.st then decide (a.st < b.st) else if a.ws ≠ b.ws then lexL a.ws b.ws else lexL a.pr b.pr
theorem lex_irr : ∀ l : List Int, lexL l l = false
  | [] => rfl
  | a :: l => by unfold lexL; rw [if_pos rfl]; exact lex_irr l
theorem lex_trans : ∀ {a b c : List Int}, lexL a b = true → lexL b c = true → lexL a c = true
  | [], _, [], h1, h2 => by
    rename_i b
    cases b with
    | nil => cases h1
    | cons x r => cases h2
  | [], _, _ :: _, _, _ => rfl
  | _ :: _, [], _, h1, _ => by cases h1
  | _ :: _, _ :: _, [], _, h2 => by cases h2
  | x :: a, y :: b, z :: c, h1, h2 => by
    unfold lexL at h1 h2 ⊢
    by_cases e1 : x = y
    · rw [if_pos e1] at h1
      by_cases e2 : y = z
      · rw [if_pos e2] at h2
        rw [if_pos (e1.trans e2)]
        exact lex_trans h1 h2
      · rw [if_neg e2] at h2
        rw [if_neg (by rw [e1]; exact e2), e1]
        exact h2
    · rw [if_neg e1] at h1
      have h1 := of_decide_eq_true h1
      by_cases e2 : y = z
      · rw [if_neg (by rw [← e2]; exact e1), ← e2]
        exact decide_eq_true h1
      · rw [if_neg e2] at h2
        have h2 := of_decide_eq_true h2
        rw [if_neg (by omega)]
        exact decide_eq_true (by omega)
theorem lex_tri : ∀ {a b : List Int}, lexL a b = false → lexL b a = false → a = b
  | [], [], _, _ => rfl
  | [], _ :: _, h, _ => by cases h
  | _ :: _, [], _, h => by cases h
  | x :: a, y :: b, h1, h2 => by
    unfold lexL at h1 h2
    by_cases e : x = y
    · rw [if_pos e] at h1
      rw [if_pos e.symm] at h2
      rw [e, lex_tri h1 h2]
    · rw [if_neg e] at h1
      rw [if_neg (fun h => e h.symm)] at h2
      have h1 := of_decide_eq_false h1
      have h2 := of_decide_eq_false h2
      omega
theorem ahead_irr (a : Oc) : aheadO a a = false := by
  unfold aheadO
  rw [if_neg (by simp), if_neg (by simp)]
  exact lex_irr _
theorem ahead_trans {a b c : Oc} (h1 : aheadO a b = true) (h2 : aheadO b c = true) : aheadO a c = true := by
  unfold aheadO at *
  by_cases e1 : a.st = b.st
  · rw [if_neg (by simpa using e1)] at h1
    by_cases e2 : b.st = c.st
    · rw [if_neg (by simpa using e2)] at h2
      rw [if_neg (by rw [e1, e2]; simp)]
      by_cases w1 : a.ws = b.ws
      · rw [if_neg (by simpa using w1)] at h1
        by_cases w2 : b.ws = c.ws
        · rw [if_neg (by simpa using w2)] at h2
          rw [if_neg (by rw [w1, w2]; simp)]
          exact lex_trans h1 h2
        · rw [if_pos w2] at h2
          rw [if_pos (by rw [w1]; exact w2), w1]
          exact h2
      · rw [if_pos w1] at h1
        by_cases w2 : b.ws = c.ws
        · rw [if_pos (by rw [← w2]; exact w1), ← w2]
          exact h1
        · rw [if_pos w2] at h2
          have h3 := lex_trans h1 h2
          rw [if_pos (fun e => by rw [e, lex_irr] at h3; cases h3)]
          exact h3
    · rw [if_pos e2] at h2
      rw [if_pos (by rw [e1]; exact e2), e1]
      exact h2
  · rw [if_pos e1] at h1
    have h1 := of_decide_eq_true h1
    by_cases e2 : b.st = c.st
    · rw [if_pos (by rw [← e2]; exact e1), ← e2]
      exact decide_eq_true h1
    · rw [if_pos e2] at h2
      have h2 := of_decide_eq_true h2
      rw [if_pos (by omega)]
      exact decide_eq_true (by omega)
theorem ahead_tri {a b : Oc} (h1 : aheadO a b = false) (h2 : aheadO b a = false) : a = b := by
  unfold aheadO at *
  by_cases e : a.st = b.st
  · rw [if_neg (by simpa using e)] at h1
    rw [if_neg (by simpa using e.symm)] at h2
    have ew : a.ws = b.ws := by
      by_cases w : a.ws = b.ws
      · exact w
      · rw [if_pos w] at h1
        rw [if_pos (fun h => w h.symm)] at h2
        exact lex_tri h1 h2
    rw [if_neg (by simpa using ew)] at h1
    rw [if_neg (by simpa using ew.symm)] at h2
    have ep := lex_tri h1 h2
    cases a; cases b
    simp only at e ew ep
    subst e ew ep
    rfl
  · rw [if_pos e] at h1
    rw [if_pos (fun h => e h.symm)] at h2
    have h1 := of_decide_eq_false h1
    have h2 := of_decide_eq_false h2
    omega
theorem ahead_asym {a b : Oc} (h : aheadO a b = true) : aheadO b a = false := by
  cases e : aheadO b a with
  | false => rfl
  | true => have := ahead_trans h e; rw [ahead_irr] at this; cases this
/-- Each comes ahead of all that stand behind it. -/
def SortedO (l : List Oc) : Prop := l.Pairwise fun a b => aheadO a b = true
theorem sorted_same : ∀ {l r : List Oc}, SortedO l → SortedO r → (∀ o, o ∈ l ↔ o ∈ r) → l = r
  | [], [], _, _, _ => rfl
  | [], b :: r, _, _, h => by have := (h b).2 (by simp); cases this
  | a :: l, [], _, _, h => by have := (h a).1 (by simp); cases this
  | a :: l, b :: r, hl, hr, h => by
    rw [SortedO, List.pairwise_cons] at hl hr
    have ha := (h a).1 (by simp)
    have hb := (h b).2 (by simp)
    have e : a = b := by
      rcases List.mem_cons.mp ha with e | ha
      · exact e
      · rcases List.mem_cons.mp hb with e | hb
        · exact e.symm
        · have h1 := hl.1 b hb
          have h2 := hr.1 a ha
          rw [ahead_asym h1] at h2
          cases h2
    subst e
    have hna : ∀ {o}, o ∈ l → o ≠ a := fun ho e => by
      have := hl.1 _ ho
      rw [e, ahead_irr] at this
      cases this
    have hnr : ∀ {o}, o ∈ r → o ≠ a := fun ho e => by
      have := hr.1 _ ho
      rw [e, ahead_irr] at this
      cases this
    rw [sorted_same (l := l) (r := r) hl.2 hr.2 (fun o => ⟨fun ho => by
      rcases List.mem_cons.mp ((h o).1 (by simp [ho])) with e | e
      · exact absurd e (hna ho)
      · exact e, fun ho => by
      rcases List.mem_cons.mp ((h o).2 (by simp [ho])) with e | e
      · exact absurd e (hnr ho)
      · exact e⟩)]
/-- An outcome, into its place, once. -/
def insO (o : Oc) : List Oc → List Oc
  | [] => [o]
  | a :: l => if aheadO o a then o :: a :: l else if aheadO a o then a :: insO o l else a :: l
theorem mem_insO {o x : Oc} : ∀ {l : List Oc}, x ∈ insO o l ↔ x = o ∨ x ∈ l
  | [] => by simp [insO]
  | a :: l => by
    unfold insO
    split
    · simp
    · split
      · rw [List.mem_cons, mem_insO, List.mem_cons]
        constructor
        · rintro (h | h | h)
          · exact Or.inr (Or.inl h)
          · exact Or.inl h
          · exact Or.inr (Or.inr h)
        · rintro (h | h | h)
          · exact Or.inr (Or.inl h)
          · exact Or.inl h
          · exact Or.inr (Or.inr h)
      · rename_i h1 h2
        have e : o = a := ahead_tri (by simpa using h1) (by simpa using h2)
        subst e
        simp
theorem sorted_insO {o : Oc} : ∀ {l : List Oc}, SortedO l → SortedO (insO o l)
  | [], _ => List.pairwise_singleton _ _
  | a :: l, h => by
    unfold insO
    have h' := h
    rw [SortedO, List.pairwise_cons] at h'
    split
    · rename_i h1
      refine List.pairwise_cons.mpr ⟨fun x hx => ?_, h⟩
      rcases List.mem_cons.mp hx with e | hx
      · rw [e]; exact h1
      · exact ahead_trans h1 (h'.1 x hx)
    · split
      · rename_i h1 h2
        refine List.pairwise_cons.mpr ⟨fun x hx => ?_, sorted_insO h'.2⟩
        rcases mem_insO.mp hx with e | hx
        · rw [e]; exact h2
        · exact h'.1 x hx
      · exact h

/-! All that can be come to. -/
section
variable {S : Type}
inductive Rch (nx : S → List S) (s0 : S) : S → Prop
  | base : Rch nx s0 s0
  | step {s t : S} : Rch nx s0 s → t ∈ nx s → Rch nx s0 t
theorem nodup_len [DecidableEq S] : ∀ {l r : List S}, l.Nodup → (∀ x, x ∈ l → x ∈ r) → l.length ≤ r.length
  | [], _, _, _ => Nat.zero_le _
  | a :: l, r, hl, h => by
    rw [List.nodup_cons] at hl
    have ha : a ∈ r := h a (by simp)
    have h1 := nodup_len (l := l) (r := r.erase a) hl.2 (fun x hx => by
      have hne : x ≠ a := fun e => hl.1 (e ▸ hx)
      exact (List.mem_erase_of_ne hne).mpr (h x (by simp [hx])))
    rw [List.length_erase_of_mem ha] at h1
    have : 0 < r.length := List.length_pos_of_mem ha
    simp only [List.length_cons]
    omega
/-- What is told of all that can come: too many states, or all outcomes. -/
def Told (nx : S → List S) (outs : S → List Oc) (s0 : S) (mx : Nat) (full : Bool) (l : List Oc) : Prop :=
  (full = true ∧ ∃ K : List S, K.Nodup ∧ (∀ s, s ∈ K → Rch nx s0 s) ∧ mx < K.length) ∨ (full = false ∧ SortedO l ∧ (∀ o, o ∈ l ↔ ∃ s, Rch nx s0 s ∧ o ∈ outs s) ∧ ∃ K : List S, K.Nodup ∧ (∀ s, s ∈ K ↔ Rch nx s0 s) ∧ K.length ≤ mx)
theorem told_same [DecidableEq S] {nx : S → List S} {outs : S → List Oc} {s0 : S} {mx : Nat} {f1 f2 : Bool} {l1 l2 : List Oc} (h1 : Told nx outs s0 mx f1 l1) (h2 : Told nx outs s0 mx f2 l2) : f1 = f2 ∧ (f1 = false → l1 = l2) := by
  rcases h1 with ⟨e1, K1, n1, r1, c1⟩ | ⟨e1, s1, m1, K1, n1, r1, c1⟩ <;> rcases h2 with ⟨e2, K2, n2, r2, c2⟩ | ⟨e2, s2, m2, K2, n2, r2, c2⟩
  · exact ⟨e1.trans e2.symm, fun h => by rw [e1] at h; cases h⟩
  · have := nodup_len n1 (fun x hx => (r2 x).2 (r1 x hx))
    omega
  · have := nodup_len n2 (fun x hx => (r1 x).2 (r2 x hx))
    omega
  · exact ⟨e1.trans e2.symm, fun _ => sorted_same s1 s2 (fun o => (m1 o).trans (m2 o).symm)⟩
end
end

section
open Go.RowKit

theorem truth_any (b : Bool) (w : World) : Calls Tryz.prog 103 #[.bool b] w fun e w' => e = .returned (.int .i64 (bitI b)) ∧ w' = w := by
  go_enter Tryz.func103, Tryz.ntmps103
  cases b <;> go_wp2 <;> go_ret <;> exact ⟨rfl, rfl⟩
end

end Go.Proofs.YtgofbkgfonlceadGreatDoor
