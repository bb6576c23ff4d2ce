/-
  What the document says of runs, as plain functions: what waits, the state of a run, what can be picked, what a move does, a run's trace.
  The state of a run of the document as it lies in memory, with all its rows; what a store and an append make of it.
  What holds of a state in every run of a program that may be; what an order's numbers may be.
  What holds of a state holds behind every move that can be picked.
  A truth as a number, by the program.
-/
import Derived.Test.YtgofbkgfonlceacGreatDoorPlain
import Derived.WalkKit
import Derived.WalkSpells
import Derived.WalkLawsBesides
import Derived.Test.YtgofbkgfonlceacGreatDoorOrder
namespace Go.Proofs.YtgofbkgfonlceacGreatDoor
section
open Go.RowKit

/-- What waits: a store into a word, or that a lock becomes free. -/
structure Wt where
  lk : Bool
  wh : Int
  what : Int
deriving DecidableEq, Inhabited
/-- A thread of a run. -/
structure Th where
  pc : Nat
  regs : List Int
  wait : List Wt
deriving DecidableEq, Inhabited
/-- The state of a run. -/
structure Sx where
  ths : List Th
  words : List Int
  own : List Int
  prints : List Int
  fell : Bool
deriving DecidableEq, Inhabited

section
variable (L : Nat → Nat) (X : Nat → Nat → Nat → Int)

def thOf (s : Sx) (t : Nat) : Th := s.ths.getD t default
def endedT (s : Sx) (t : Nat) : Bool := decide (L t ≤ (thOf s t).pc)
def opT (s : Sx) (t q : Nat) : Int := X t (thOf s t).pc q
/-- Is a thread able to do its next order? -/
def ableT (s : Sx) (t : Nat) : Bool :=
  if endedT L s t then false
  else
    let k := (thOf s t).wait.length
    let op := opT X s t 0
    if op = 9 ∨ op = 11 ∨ op = 18 then decide (k < 3)
    else if op = 12 ∨ op = 13 then decide (k = 0)
    else if op = 17 then decide (k = 0) && decide (s.own.getD (opT X s t 1).toNat 0 = -1)
    else true
/-- May the k-th one that waits be done? -/
def mayW (mode : Int) (l : List Wt) (k : Nat) : Bool :=
  if k = 0 then true
  else if mode = 1 ∨ (l.getD k default).lk = true then false
  else (l.take k).all fun x => !(x.lk || decide (x.wh = (l.getD k default).wh))
/-- What can be picked. -/
def movesT (mode : Int) (s : Sx) (t : Nat) : List Int :=
  (if ableT L X s t then [8 * (t : Int)] else []) ++ ((List.range (thOf s t).wait.length).filter (fun k => mayW mode (thOf s t).wait k)).map fun (k : Nat) => 8 * (t : Int) + (k : Int) + 1
def movesX (mode : Int) (s : Sx) : List Int := (List.range s.ths.length).flatMap fun t => movesT L X mode s t
def endedX (s : Sx) : Bool := (List.range s.ths.length).all fun t => endedT L s t && (thOf s t).wait.isEmpty
def setTh (s : Sx) (t : Nat) (x : Th) : Sx := { s with ths := s.ths.set t x }
/-- One that waited is done. -/
def doneW (s : Sx) (x : Wt) : Sx := if x.lk then { s with own := s.own.set x.wh.toNat (-1) } else { s with words := s.words.set x.wh.toNat x.what }
def storeW (mode : Int) (s : Sx) (t : Nat) (x : Wt) : Sx :=
  if 0 < mode then setTh s t { thOf s t with wait := (thOf s t).wait ++ [x] } else doneW s x
/-- What a thread finds in a word. -/
def findsW (s : Sx) (t : Nat) (wd : Int) : Int :=
  match (thOf s t).wait.reverse.find? fun x => !x.lk && decide (x.wh = wd) with
  | some x => x.what
  | none => s.words.getD wd.toNat 0
def setR (s : Sx) (t : Nat) (r v : Int) : Sx := setTh s t { thOf s t with regs := (thOf s t).regs.set r.toNat v }
def getR (s : Sx) (t : Nat) (r : Int) : Int := (thOf s t).regs.getD r.toNat 0
def bitI (b : Bool) : Int := if b then 1 else 0
def fallX (s : Sx) : Sx := { s with fell := true }
/-- A thread's order op, with its numbers a, b, c; the thread stands behind it already. -/
def orderX (mode : Int) (s : Sx) (t : Nat) (op a b c : Int) : Sx :=
  if op = 1 then setR s t a b
  else if op = 2 then setR s t a (getR s t b)
  else if op = 3 then setR s t a (IntKind.i64.wrap (getR s t b + getR s t c))
  else if op = 4 then setR s t a (IntKind.i64.wrap (getR s t b - getR s t c))
  else if op = 5 then setR s t a (IntKind.i64.wrap (getR s t b * getR s t c))
  else if op = 6 then setR s t a (bitI (decide (getR s t b < getR s t c)))
  else if op = 7 then setR s t a (bitI (decide (getR s t b = getR s t c)))
  else if op = 8 then setR s t a (findsW s t b)
  else if op = 9 then storeW mode s t ⟨false, a, getR s t b⟩
  else if op = 10 then (if getR s t b < 0 ∨ (s.words.length : Int) ≤ getR s t b then fallX s else setR s t a (findsW s t (getR s t b)))
  else if op = 11 then (if getR s t a < 0 ∨ (s.words.length : Int) ≤ getR s t a then fallX s else storeW mode s t ⟨false, getR s t a, getR s t b⟩)
  else if op = 13 then (if s.words.getD a.toNat 0 = getR s t b then setR { s with words := s.words.set a.toNat (getR s t c) } t b 1 else setR s t b 0)
  else if op = 14 then setTh s t { thOf s t with pc := a.toNat }
  else if op = 15 then (if getR s t a = 0 then setTh s t { thOf s t with pc := b.toNat } else s)
  else if op = 16 then { s with prints := s.prints ++ [(t : Int), getR s t a] }
  else if op = 17 then { s with own := s.own.set a.toNat t }
  else if op = 18 then (if s.own.getD a.toNat 0 ≠ t ∨ ((thOf s t).wait.any fun x => x.lk && decide (x.wh = a)) = true then fallX s else storeW mode s t ⟨true, a, 0⟩)
  else s
/-- A move: eight times a thread's number: its order; k more: the k-th one that waits. -/
def doX (mode : Int) (s : Sx) (mv : Nat) : Sx :=
  let t := mv / 8
  let k := mv % 8
  if 0 < k then
    let s' := doneW s ((thOf s t).wait.getD (k - 1) default)
    setTh s' t { thOf s' t with wait := (thOf s' t).wait.eraseIdx (k - 1) }
  else
    let pc := (thOf s t).pc
    orderX mode (setTh s t { thOf s t with pc := pc + 1 }) t (X t pc 0) (X t pc 1) (X t pc 2) (X t pc 3)
end
/-- The state ahead of the first step. -/
def beginX (n : Nat) (words : List Int) (lk rg : Int) : Sx :=
  { ths := List.replicate n { pc := 0, regs := List.replicate rg.toNat 0, wait := [] }, words := words, own := List.replicate lk.toNat (-1), prints := [], fell := false }
end

section
open Go.RowKit

/-- The rows of a state. -/
inductive Rl where
  | box
  | thr
  | words
  | own
  | prints
  | regs (t : Nat)
  | wait (t : Nat)
deriving DecidableEq

/-- A program as a value, and the mode. -/
structure Pg where
  ca : Option Addr
  n : Nat
  cc : Nat
  wa : Option Addr
  m : Nat
  wc : Nat
  lk : Int
  rg : Int
  mode : Int
def waitC (x : Wt) (j : Nat) : Value := if j = 0 then .bool x.lk else if j = 1 then .int .i64 x.wh else .int .i64 x.what
def waitV (l : List Wt) : List Value := rows3 l.length fun i j => waitC (l.getD i default) j
theorem thOf_set {s : Sx} {t : Nat} (ht : t < s.ths.length) (x : Th) (u : Nat) : thOf (setTh s t x) u = if u = t then x else thOf s u := by
  unfold thOf setTh
  simp only [List.getD, List.getElem?_set]
  by_cases h : u = t
  · subst h; simp [ht]
  · rw [if_neg (fun e => h e.symm), if_neg h]

section
variable {w w1 : World} {B : Nat} {P : Pg} {sb : Nat} {v : Rl → Value} {s : Sx}

theorem ths_set (s : Sx) (t : Nat) (x : Th) : (setTh s t x).ths.length = s.ths.length := by simp [setTh]
theorem waitV_snoc (l : List Wt) (x : Wt) : Go.Proofs.YtgofbkgfonlceacGreatDoor.waitV (l ++ [x]) = Go.Proofs.YtgofbkgfonlceacGreatDoor.waitV l ++ [.bool x.lk, .int .i64 x.wh, .int .i64 x.what] := by
  unfold Go.Proofs.YtgofbkgfonlceacGreatDoor.waitV
  rw [List.length_append, List.length_singleton, rows3_snoc]
  congr 1
  · refine rows3_congr fun t j ht => ?_
    congr 1
    simp [List.getD, List.getElem?_append_left ht]
  · simp [waitC, List.getD]
end
end

section
open Go.RowKit

/-- What holds of a state in every run: of n threads, m words, lk locks, rg registers a thread. -/
structure SOk (n : Nat) (L : Nat → Nat) (m lk rg : Nat) (mode : Int) (s : Sx) : Prop where
  ths : s.ths.length = n
  pc : ∀ t, t < n → (thOf s t).pc ≤ L t
  regs : ∀ t, t < n → (thOf s t).regs.length = rg
  words : s.words.length = m
  own : s.own.length = lk
  wlen : ∀ t, t < n → (thOf s t).wait.length ≤ 3
  wok : ∀ t, t < n → ∀ x, x ∈ (thOf s t).wait → (0 ≤ x.wh ∧ x.wh < (if x.lk then lk else m : Nat)) ∧ (x.lk = true → x.what = 0)
  bare : mode = 0 → ∀ t, t < n → (thOf s t).wait = []

/-- The orders may be. -/
structure COk (n : Nat) (L : Nat → Nat) (X : Nat → Nat → Nat → Int) (m lk rg : Nat) : Prop where
  n4 : n ≤ 4
  L4 : ∀ t, t < n → L t ≤ 400
  m64 : m ≤ 64
  lk4 : lk ≤ 4
  rg0 : 1 ≤ rg
  rg2 : rg ≤ 200
  ord : ∀ t i, t < n → i < L t → ordE rg m lk (L t) (X t i 0) (X t i 1) (X t i 2) (X t i 3) = 0

section
variable {rg m lk sz : Nat} {op a b c : Int}
theorem ok_op (h : ordE rg m lk sz op a b c = 0) : 1 ≤ op ∧ op ≤ 18 := by
  rcases op_cases op with h1 | h1
  · exfalso
    unfold ordE at h
    rw [kd_out h1] at h
    simp at h
  · omega
theorem ok_three {rg m lk sz : Int} {x y z : Int} (hk : kd op = some (x, y, z)) (h : ordE rg m lk sz op a b c = 0) : okN rg m lk sz x a = true ∧ okN rg m lk sz y b = true ∧ okN rg m lk sz z c = true := by
  unfold ordE at h
  rw [hk] at h
  simp only at h
  split at h
  · rename_i h1; simpa [and_assoc] using h1
  · omega
theorem okN_reg {rg m lk sz n : Int} (h : okN rg m lk sz 1 n = true) : 0 ≤ n ∧ n < rg := by simpa [okN, lim] using h
theorem okN_word {rg m lk sz n : Int} (h : okN rg m lk sz 2 n = true) : 0 ≤ n ∧ n < m := by simpa [okN, lim] using h
theorem okN_lock {rg m lk sz n : Int} (h : okN rg m lk sz 3 n = true) : 0 ≤ n ∧ n < lk := by simpa [okN, lim] using h
theorem okN_place {rg m lk sz n : Int} (h : okN rg m lk sz 4 n = true) : 0 ≤ n ∧ n ≤ sz := by
  have : 0 ≤ n ∧ n < sz + 1 := by simpa [okN, lim] using h
  omega
/-- An order of three registers. -/
theorem ok_rrr (ho : op = 3 ∨ op = 4 ∨ op = 5 ∨ op = 6 ∨ op = 7) (h : ordE rg m lk sz op a b c = 0) : (0 ≤ a ∧ a < rg) ∧ (0 ≤ b ∧ b < rg) ∧ (0 ≤ c ∧ c < rg) := by
  have hk : kd op = some (1, 1, 1) := by rcases ho with rfl | rfl | rfl | rfl | rfl <;> rfl
  have := ok_three hk h
  exact ⟨okN_reg this.1, okN_reg this.2.1, okN_reg this.2.2⟩
theorem ok_const (h : ordE rg m lk sz 1 a b c = 0) : 0 ≤ a ∧ a < rg := okN_reg (ok_three (op := 1) rfl h).1
theorem ok_rr (ho : op = 2 ∨ op = 10 ∨ op = 11) (h : ordE rg m lk sz op a b c = 0) : (0 ≤ a ∧ a < rg) ∧ (0 ≤ b ∧ b < rg) := by
  have hk : kd op = some (1, 1, 0) := by rcases ho with rfl | rfl | rfl <;> rfl
  have := ok_three hk h
  exact ⟨okN_reg this.1, okN_reg this.2.1⟩
theorem ok_load (h : ordE rg m lk sz 8 a b c = 0) : (0 ≤ a ∧ a < rg) ∧ (0 ≤ b ∧ b < m) := by
  have := ok_three (op := 8) rfl h
  exact ⟨okN_reg this.1, okN_word this.2.1⟩
theorem ok_store (h : ordE rg m lk sz 9 a b c = 0) : (0 ≤ a ∧ a < m) ∧ (0 ≤ b ∧ b < rg) := by
  have := ok_three (op := 9) rfl h
  exact ⟨okN_word this.1, okN_reg this.2.1⟩
theorem ok_cas (h : ordE rg m lk sz 13 a b c = 0) : (0 ≤ a ∧ a < m) ∧ (0 ≤ b ∧ b < rg) ∧ (0 ≤ c ∧ c < rg) := by
  have := ok_three (op := 13) rfl h
  exact ⟨okN_word this.1, okN_reg this.2.1, okN_reg this.2.2⟩
theorem ok_jump (h : ordE rg m lk sz 14 a b c = 0) : 0 ≤ a ∧ a ≤ sz := okN_place (ok_three (op := 14) rfl h).1
theorem ok_zero (h : ordE rg m lk sz 15 a b c = 0) : (0 ≤ a ∧ a < rg) ∧ (0 ≤ b ∧ b ≤ sz) := by
  have := ok_three (op := 15) rfl h
  exact ⟨okN_reg this.1, okN_place this.2.1⟩
theorem ok_print (h : ordE rg m lk sz 16 a b c = 0) : 0 ≤ a ∧ a < rg := okN_reg (ok_three (op := 16) rfl h).1
theorem ok_lock (ho : op = 17 ∨ op = 18) (h : ordE rg m lk sz op a b c = 0) : 0 ≤ a ∧ a < lk := by
  have hk : kd op = some (3, 0, 0) := by rcases ho with rfl | rfl <;> rfl
  exact okN_lock (ok_three hk h).1
end
theorem toN {a : Int} {n : Nat} (h : 0 ≤ a ∧ a < n) : ∃ k : Nat, a = k ∧ k < n := ⟨a.toNat, by omega, by omega⟩
theorem toN_le {a : Int} {n : Nat} (h : 0 ≤ a ∧ a ≤ n) : ∃ k : Nat, a = k ∧ k ≤ n := ⟨a.toNat, by omega, by omega⟩
end

section
open Go.RowKit

section
variable {n : Nat} {L : Nat → Nat} {m lk rg : Nat} {mode : Int} {s : Sx}
theorem SOk.th (h : SOk n L m lk rg mode s) {t : Nat} (ht : t < n) {x : Th} (hpc : x.pc ≤ L t) (hr : x.regs.length = rg) (hw : x.wait.length ≤ 3) (hok : ∀ y, y ∈ x.wait → (0 ≤ y.wh ∧ y.wh < (if y.lk then lk else m : Nat)) ∧ (y.lk = true → y.what = 0)) (hb : mode = 0 → x.wait = []) : SOk n L m lk rg mode (setTh s t x) := by
  have htl : t < s.ths.length := by rw [h.ths]; exact ht
  have e := thOf_set htl x
  refine ⟨by rw [ths_set]; exact h.ths, fun u hu => ?_, fun u hu => ?_, h.words, h.own, fun u hu => ?_, fun u hu => ?_, fun h0 u hu => ?_⟩
  all_goals rw [e u]
  all_goals split
  all_goals first | (rename_i hu'; subst hu'; assumption) | skip
  · exact h.pc u hu
  · exact h.regs u hu
  · exact h.wlen u hu
  · exact h.wok u hu
  · rename_i hu'; exact hb h0
  · exact h.bare h0 u hu
theorem SOk.setWord (h : SOk n L m lk rg mode s) (i : Nat) (x : Int) : SOk n L m lk rg mode { s with words := s.words.set i x } := ⟨h.ths, h.pc, h.regs, by simpa using h.words, h.own, h.wlen, h.wok, h.bare⟩
theorem SOk.setOwn (h : SOk n L m lk rg mode s) (i : Nat) (x : Int) : SOk n L m lk rg mode { s with own := s.own.set i x } := ⟨h.ths, h.pc, h.regs, h.words, by simpa using h.own, h.wlen, h.wok, h.bare⟩
theorem SOk.print (h : SOk n L m lk rg mode s) (l : List Int) : SOk n L m lk rg mode { s with prints := l } := ⟨h.ths, h.pc, h.regs, h.words, h.own, h.wlen, h.wok, h.bare⟩
theorem SOk.fall (h : SOk n L m lk rg mode s) : SOk n L m lk rg mode (fallX s) := ⟨h.ths, h.pc, h.regs, h.words, h.own, h.wlen, h.wok, h.bare⟩
theorem SOk.setR (h : SOk n L m lk rg mode s) {t : Nat} (ht : t < n) (r x : Int) : SOk n L m lk rg mode (setR s t r x) := h.th ht (h.pc t ht) (by simpa using h.regs t ht) (h.wlen t ht) (h.wok t ht) (fun h0 => h.bare h0 t ht)
theorem SOk.setPc (h : SOk n L m lk rg mode s) {t : Nat} (ht : t < n) {k : Nat} (hk : k ≤ L t) : SOk n L m lk rg mode (setTh s t { thOf s t with pc := k }) := h.th ht hk (h.regs t ht) (h.wlen t ht) (h.wok t ht) (fun h0 => h.bare h0 t ht)
theorem SOk.done (h : SOk n L m lk rg mode s) (x : Wt) : SOk n L m lk rg mode (doneW s x) := by
  unfold doneW
  split
  · exact h.setOwn _ _
  · exact h.setWord _ _
theorem SOk.store (h : SOk n L m lk rg mode s) {t : Nat} (ht : t < n) (_hm : 0 ≤ mode) (hw : (thOf s t).wait.length < 3) (x : Wt) (hx : (0 ≤ x.wh ∧ x.wh < (if x.lk then lk else m : Nat)) ∧ (x.lk = true → x.what = 0)) : SOk n L m lk rg mode (storeW mode s t x) := by
  unfold storeW
  split
  · refine h.th ht (h.pc t ht) (h.regs t ht) (by simp; omega) (fun y hy => ?_) (fun h0 => by omega)
    simp only [List.mem_append, List.mem_singleton] at hy
    rcases hy with hy | rfl
    · exact h.wok t ht y hy
    · exact hx
  · exact h.done x
/-- An order. -/
theorem SOk.order (h : SOk n L m lk rg mode s) {t : Nat} (ht : t < n) (hm : 0 ≤ mode) {op a b c : Int} (hw : op = 9 ∨ op = 11 ∨ op = 18 → (thOf s t).wait.length < 3) (hc : ordE rg m lk (L t) op a b c = 0) : SOk n L m lk rg mode (orderX mode s t op a b c) := by
  have hop := ok_op hc
  unfold orderX
  by_cases h1 : op = 1
  · rw [if_pos h1]; exact h.setR ht _ _
  rw [if_neg h1]
  by_cases h1 : op = 2
  · rw [if_pos h1]; exact h.setR ht _ _
  rw [if_neg h1]
  by_cases h1 : op = 3
  · rw [if_pos h1]; exact h.setR ht _ _
  rw [if_neg h1]
  by_cases h1 : op = 4
  · rw [if_pos h1]; exact h.setR ht _ _
  rw [if_neg h1]
  by_cases h1 : op = 5
  · rw [if_pos h1]; exact h.setR ht _ _
  rw [if_neg h1]
  by_cases h1 : op = 6
  · rw [if_pos h1]; exact h.setR ht _ _
  rw [if_neg h1]
  by_cases h1 : op = 7
  · rw [if_pos h1]; exact h.setR ht _ _
  rw [if_neg h1]
  by_cases h1 : op = 8
  · rw [if_pos h1]; exact h.setR ht _ _
  rw [if_neg h1]
  by_cases h1 : op = 9
  · rw [if_pos h1]
    subst h1
    have := (ok_store hc).1
    exact h.store ht hm (hw (Or.inl rfl)) _ ⟨by show 0 ≤ a ∧ a < ((m : Nat) : Int); omega, fun h => by cases h⟩
  rw [if_neg h1]
  by_cases h1 : op = 10
  · rw [if_pos h1]
    split
    · exact h.fall
    · exact h.setR ht _ _
  rw [if_neg h1]
  by_cases h1 : op = 11
  · rw [if_pos h1]
    split
    · exact h.fall
    · rename_i hn
      rw [h.words] at hn
      exact h.store ht hm (hw (Or.inr (Or.inl h1))) _ ⟨by show 0 ≤ getR s t a ∧ getR s t a < ((m : Nat) : Int); omega, fun h => by cases h⟩
  rw [if_neg h1]
  by_cases h1 : op = 13
  · rw [if_pos h1]
    split
    · exact (h.setWord _ _).setR ht _ _
    · exact h.setR ht _ _
  rw [if_neg h1]
  by_cases h1 : op = 14
  · rw [if_pos h1]
    subst h1
    have := ok_jump hc
    exact h.setPc ht (by omega)
  rw [if_neg h1]
  by_cases h1 : op = 15
  · rw [if_pos h1]
    subst h1
    have := (ok_zero hc).2
    split
    · exact h.setPc ht (by omega)
    · exact h
  rw [if_neg h1]
  by_cases h1 : op = 16
  · rw [if_pos h1]; exact h.print _
  rw [if_neg h1]
  by_cases h1 : op = 17
  · rw [if_pos h1]; exact h.setOwn _ _
  rw [if_neg h1]
  by_cases h1 : op = 18
  · rw [if_pos h1]
    split
    · exact h.fall
    · have := ok_lock (Or.inr h1) hc
      exact h.store ht hm (hw (Or.inr (Or.inr h1))) _ ⟨by show 0 ≤ a ∧ a < ((lk : Nat) : Int); omega, fun _ => rfl⟩
  rw [if_neg h1]
  exact h
theorem prints_store (s : Sx) (t : Nat) (x : Wt) : (storeW mode s t x).prints = s.prints := by
  unfold storeW doneW setTh
  split
  · rfl
  · split <;> rfl
theorem prints_order (s : Sx) (t : Nat) (op a b c : Int) : (orderX mode s t op a b c).prints.length ≤ s.prints.length + 2 := by
  have key : ∀ (p : Prop) [Decidable p] (x y : Sx), x.prints.length ≤ s.prints.length + 2 → y.prints.length ≤ s.prints.length + 2 → (if p then x else y).prints.length ≤ s.prints.length + 2 := fun p _ x y hx hy => by
    split
    · exact hx
    · exact hy
  unfold orderX
  repeat' (refine key _ _ _ ?_ ?_)
  all_goals first | (show s.prints.length ≤ _; omega) | (rw [prints_store]; omega) | simp
end
theorem able_lt {L : Nat → Nat} {X : Nat → Nat → Nat → Int} {s : Sx} {t : Nat} (h : ableT L X s t = true) : (thOf s t).pc < L t := by
  rcases Nat.lt_or_ge (thOf s t).pc (L t) with h1 | h1
  · exact h1
  · unfold ableT endedT at h
    rw [decide_eq_true h1] at h
    simp at h
theorem able_room {L : Nat → Nat} {X : Nat → Nat → Nat → Int} {s : Sx} {t : Nat} (h : ableT L X s t = true) (ho : opT X s t 0 = 9 ∨ opT X s t 0 = 11 ∨ opT X s t 0 = 18) : (thOf s t).wait.length < 3 := by
  have h1 := able_lt h
  unfold ableT endedT at h
  rw [decide_eq_false (by omega)] at h
  simp only [Bool.false_eq_true, if_false] at h
  rw [if_pos ho] at h
  simpa using h
end

section
open Go.RowKit

theorem truth_any (b : Bool) (w : World) : Calls Tryz.prog 150 #[.bool b] w fun e w' => e = .returned (.int .i64 (bitI b)) ∧ w' = w := by
  go_enter Tryz.func150, Tryz.ntmps150
  cases b <;> go_wp2 <;> go_ret <;> exact ⟨rfl, rfl⟩
end

end Go.Proofs.YtgofbkgfonlceacGreatDoor
