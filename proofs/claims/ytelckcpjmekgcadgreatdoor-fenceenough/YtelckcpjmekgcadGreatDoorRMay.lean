/-
  The box of a program that was handed in.
  What holds of a state holds behind every move that can be picked.
  What waits, as it lies in memory; whether one that waits may be done.
  Whether a thread is able to do its next order.
  One that waited is done; whether a number is a word's; a store.
  What can be picked, all of it.
  What a thread finds in a word.
  A move of the document's run: what lies ahead of a thread's order.
  A move of the document's run: a thread's order, whichever it is.
  A state that is being begun: its words, one lock more, one thread more.
  The document's state ahead of the first step.
  What the document's Run goes by: a script's picks, the run as a plain function, the round's invariant.
  What the document's Ints does with two lists of the same numbers.
  A list of numbers that was made is one that can be read.
  The document's sum of numbers; whether two lists are the same, which comes first; the order of outcomes.
  Whether two lists of outcomes are the same, by the document.
  A program that is handed in, read: its orders lie in memory, its numbers fit.
  A program and a script that are handed in, opened.
-/
import Derived.Test.YtelckcpjmekgcadGreatDoorInProg
import Derived.Test.YtelckcpjmekgcadGreatDoorPlain
import Derived.Deep.QuietTactic
import Derived.BigQuiet
import Derived.BigRegion
import Derived.StillTailTactics
import Derived.Deep.AppendSrc
import Derived.Deep.OwnRows
import Derived.Test.YtelckcpjmekgcadGreatDoorWorkP
import Derived.ProofKit
import Derived.Lib.SmallJoins
import Derived.Deep.Slices
namespace Go.Proofs.YtelckcpjmekgcadGreatDoor
section
open Go.RowKit

theorem box_lt {w : World} {g : Nat} {o : Obj} (h : w.heap[g]? = some o) : g < w.heap.size := by
  rcases Nat.lt_or_ge g w.heap.size with h1 | h1
  · exact h1
  · rw [Array.getElem?_eq_none h1] at h; cases h

theorem heap_set_same {w : World} {g i : Nat} {cs : Array Value} {t : TypeId} {u : Value} (h : w.heap[g]? = some (.cells cs t)) : (w.setCell ⟨g, i, none⟩ u).heap[g]? = some (.cells (cs.setIfInBounds i u) t) := by
  simp only [World.setCell, Array.getElem?_modify, if_true, h, Option.map_some]
  rfl

theorem own_type {w : World} {B : Nat} {e t : TypeId} {size : Nat} {v : Value} {n g : Nat} {xs : List Value} {c : Array Value} (h : w.ownsRow B e size v n xs) (hg : w.heap[g]? = some (.cells c t (0, 0))) (hne : e ≠ t) : v.ownBlock ≠ some g := fun e1 => by
  rcases h.2 with ⟨h0, _⟩ | ⟨g', cap, cur, hv, _, hh, _⟩
  · rw [h0] at e1; simp [Value.ownBlock] at e1
  · rw [hv] at e1
    have e2 : g' = g := by simpa [Value.ownBlock] using e1
    subst e2
    rw [hh] at hg
    simp only [Option.some.injEq, Obj.cells.injEq] at hg
    exact hne hg.2.1
theorem box_cell {w : World} {g i : Nat} {cs : Array Value} {t : TypeId} {u : Value} (h : w.heap[g]? = some (.cells cs t)) (hi : cs[i]? = some u) : w.cell? ⟨g, i, none⟩ = some u := by
  simp [World.cell?, h, hi]
theorem box_free {w : World} {g i : Nat} {cs : Array Value} {t : TypeId} (h : w.heap[g]? = some (.cells cs t)) : w.frozen? ⟨g, i, none⟩ = false := by
  simp [World.frozen?, h]
theorem box_later {w : World} {g : Nat} {o : Obj} (h : w.heap[g]? = some o) (p : Obj) : (w.alloc p).heap[g]? = some o := by
  have hl : g < w.heap.size := by
    rcases Nat.lt_or_ge g w.heap.size with h1 | h1
    · exact h1
    · rw [Array.getElem?_eq_none h1] at h; cases h
  exact (((Below.refl w.heap.size w).alloc (Nat.le_refl _) p).block _ hl).trans h
theorem cell_drw {w : World} {a : Addr} {v : Value} (h : w.cell? a = some v) : w.drew.cell? a = some v := h
end

section
open Go.RowKit

section
variable {n : Nat} {L : Nat → Nat} {m lk rg : Nat} {mode : Int} {s : Sx}
theorem SOk.th (h : SOk n L m lk rg mode s) {t : Nat} (ht : t < n) {x : Th} (hpc : x.pc ≤ L t) (hr : x.regs.length = rg) (hw : x.wait.length ≤ 3) (hok : ∀ y, y ∈ x.wait → (0 ≤ y.wh ∧ y.wh < (if y.lk then lk else m : Nat)) ∧ (y.lk = true → y.what = 0)) (hb : mode = 0 → x.wait = []) : SOk n L m lk rg mode (setTh s t x) := by
  have htl : t < s.ths.length := by rw [h.ths]; exact ht
  have e := thOf_set htl x
  refine ⟨by rw [ths_set]; exact h.ths, fun u hu => ?_, fun u hu => ?_, h.words, h.own, fun u hu => ?_, fun u hu => ?_, fun h0 u hu => ?_⟩
  all_goals rw [e u]
  all_goals split
  all_goals first | (rename_i hu'; subst hu'; assumption) | skip
  · exact h.pc u hu
  · exact h.regs u hu
  · exact h.wlen u hu
  · exact h.wok u hu
  · rename_i hu'; exact hb h0
  · exact h.bare h0 u hu
theorem SOk.setWord (h : SOk n L m lk rg mode s) (i : Nat) (x : Int) : SOk n L m lk rg mode { s with words := s.words.set i x } := ⟨h.ths, h.pc, h.regs, by simpa using h.words, h.own, h.wlen, h.wok, h.bare⟩
theorem SOk.setOwn (h : SOk n L m lk rg mode s) (i : Nat) (x : Int) : SOk n L m lk rg mode { s with own := s.own.set i x } := ⟨h.ths, h.pc, h.regs, h.words, by simpa using h.own, h.wlen, h.wok, h.bare⟩
theorem SOk.print (h : SOk n L m lk rg mode s) (l : List Int) : SOk n L m lk rg mode { s with prints := l } := ⟨h.ths, h.pc, h.regs, h.words, h.own, h.wlen, h.wok, h.bare⟩
theorem SOk.fall (h : SOk n L m lk rg mode s) : SOk n L m lk rg mode (fallX s) := ⟨h.ths, h.pc, h.regs, h.words, h.own, h.wlen, h.wok, h.bare⟩
theorem SOk.setR (h : SOk n L m lk rg mode s) {t : Nat} (ht : t < n) (r x : Int) : SOk n L m lk rg mode (setR s t r x) := h.th ht (h.pc t ht) (by simpa using h.regs t ht) (h.wlen t ht) (h.wok t ht) (fun h0 => h.bare h0 t ht)
theorem SOk.setPc (h : SOk n L m lk rg mode s) {t : Nat} (ht : t < n) {k : Nat} (hk : k ≤ L t) : SOk n L m lk rg mode (setTh s t { thOf s t with pc := k }) := h.th ht hk (h.regs t ht) (h.wlen t ht) (h.wok t ht) (fun h0 => h.bare h0 t ht)
theorem SOk.done (h : SOk n L m lk rg mode s) (x : Wt) : SOk n L m lk rg mode (doneW s x) := by
  unfold doneW
  split
  · exact h.setOwn _ _
  · exact h.setWord _ _
theorem SOk.store (h : SOk n L m lk rg mode s) {t : Nat} (ht : t < n) (_hm : 0 ≤ mode) (hw : (thOf s t).wait.length < 3) (x : Wt) (hx : (0 ≤ x.wh ∧ x.wh < (if x.lk then lk else m : Nat)) ∧ (x.lk = true → x.what = 0)) : SOk n L m lk rg mode (storeW mode s t x) := by
  unfold storeW
  split
  · refine h.th ht (h.pc t ht) (h.regs t ht) (by simp; omega) (fun y hy => ?_) (fun h0 => by omega)
    simp only [List.mem_append, List.mem_singleton] at hy
    rcases hy with hy | rfl
    · exact h.wok t ht y hy
    · exact hx
  · exact h.done x
/-- An order. -/
theorem SOk.order (h : SOk n L m lk rg mode s) {t : Nat} (ht : t < n) (hm : 0 ≤ mode) {op a b c : Int} (hw : op = 9 ∨ op = 11 ∨ op = 18 → (thOf s t).wait.length < 3) (hc : ordE rg m lk (L t) op a b c = 0) : SOk n L m lk rg mode (orderX mode s t op a b c) := by
  have hop := ok_op hc
  unfold orderX
  by_cases h1 : op = 1
  · rw [if_pos h1]; exact h.setR ht _ _
  rw [if_neg h1]
  by_cases h1 : op = 2
  · rw [if_pos h1]; exact h.setR ht _ _
  rw [if_neg h1]
  by_cases h1 : op = 3
  · rw [if_pos h1]; exact h.setR ht _ _
  rw [if_neg h1]
  by_cases h1 : op = 4
  · rw [if_pos h1]; exact h.setR ht _ _
  rw [if_neg h1]
  by_cases h1 : op = 5
  · rw [if_pos h1]; exact h.setR ht _ _
  rw [if_neg h1]
  by_cases h1 : op = 6
  · rw [if_pos h1]; exact h.setR ht _ _
  rw [if_neg h1]
  by_cases h1 : op = 7
  · rw [if_pos h1]; exact h.setR ht _ _
  rw [if_neg h1]
  by_cases h1 : op = 8
  · rw [if_pos h1]; exact h.setR ht _ _
  rw [if_neg h1]
  by_cases h1 : op = 9
  · rw [if_pos h1]
    subst h1
    have := (ok_store hc).1
    exact h.store ht hm (hw (Or.inl rfl)) _ ⟨by show 0 ≤ a ∧ a < ((m : Nat) : Int); omega, fun h => by cases h⟩
  rw [if_neg h1]
  by_cases h1 : op = 10
  · rw [if_pos h1]
    split
    · exact h.fall
    · exact h.setR ht _ _
  rw [if_neg h1]
  by_cases h1 : op = 11
  · rw [if_pos h1]
    split
    · exact h.fall
    · rename_i hn
      rw [h.words] at hn
      exact h.store ht hm (hw (Or.inr (Or.inl h1))) _ ⟨by show 0 ≤ getR s t a ∧ getR s t a < ((m : Nat) : Int); omega, fun h => by cases h⟩
  rw [if_neg h1]
  by_cases h1 : op = 13
  · rw [if_pos h1]
    split
    · exact (h.setWord _ _).setR ht _ _
    · exact h.setR ht _ _
  rw [if_neg h1]
  by_cases h1 : op = 14
  · rw [if_pos h1]
    subst h1
    have := ok_jump hc
    exact h.setPc ht (by omega)
  rw [if_neg h1]
  by_cases h1 : op = 15
  · rw [if_pos h1]
    subst h1
    have := (ok_zero hc).2
    split
    · exact h.setPc ht (by omega)
    · exact h
  rw [if_neg h1]
  by_cases h1 : op = 16
  · rw [if_pos h1]; exact h.print _
  rw [if_neg h1]
  by_cases h1 : op = 17
  · rw [if_pos h1]; exact h.setOwn _ _
  rw [if_neg h1]
  by_cases h1 : op = 18
  · rw [if_pos h1]
    split
    · exact h.fall
    · have := ok_lock (Or.inr h1) hc
      exact h.store ht hm (hw (Or.inr (Or.inr h1))) _ ⟨by show 0 ≤ a ∧ a < ((lk : Nat) : Int); omega, fun _ => rfl⟩
  rw [if_neg h1]
  exact h
theorem prints_store (s : Sx) (t : Nat) (x : Wt) : (storeW mode s t x).prints = s.prints := by
  unfold storeW doneW setTh
  split
  · rfl
  · split <;> rfl
theorem prints_order (s : Sx) (t : Nat) (op a b c : Int) : (orderX mode s t op a b c).prints.length ≤ s.prints.length + 2 := by
  have key : ∀ (p : Prop) [Decidable p] (x y : Sx), x.prints.length ≤ s.prints.length + 2 → y.prints.length ≤ s.prints.length + 2 → (if p then x else y).prints.length ≤ s.prints.length + 2 := fun p _ x y hx hy => by
    split
    · exact hx
    · exact hy
  unfold orderX
  repeat' (refine key _ _ _ ?_ ?_)
  all_goals first | (show s.prints.length ≤ _; omega) | (rw [prints_store]; omega) | simp
end
theorem able_lt {L : Nat → Nat} {X : Nat → Nat → Nat → Int} {s : Sx} {t : Nat} (h : ableT L X s t = true) : (thOf s t).pc < L t := by
  rcases Nat.lt_or_ge (thOf s t).pc (L t) with h1 | h1
  · exact h1
  · unfold ableT endedT at h
    rw [decide_eq_true h1] at h
    simp at h
theorem able_room {L : Nat → Nat} {X : Nat → Nat → Nat → Int} {s : Sx} {t : Nat} (h : ableT L X s t = true) (ho : opT X s t 0 = 9 ∨ opT X s t 0 = 11 ∨ opT X s t 0 = 18) : (thOf s t).wait.length < 3 := by
  have h1 := able_lt h
  unfold ableT endedT at h
  rw [decide_eq_false (by omega)] at h
  simp only [Bool.false_eq_true, if_false] at h
  rw [if_pos ho] at h
  simpa using h
end

section
open Go.RowKit

/-- What waits, as it is read. -/
def WIn (w : World) (a : Option Addr) (l : List Wt) : Prop := ∀ i, i < l.length → ∃ b o, a = some ⟨b, o, none⟩ ∧ w.cell? ⟨b, o + i * 3, none⟩ = some (.bool (l.getD i default).lk) ∧ w.cell? ⟨b, o + i * 3 + 1, none⟩ = some (.int .i64 (l.getD i default).wh) ∧ w.cell? ⟨b, o + i * 3 + 2, none⟩ = some (.int .i64 (l.getD i default).what)
theorem WIn.below {w w' : World} {a : Option Addr} {l : List Wt} (h : WIn w a l) (hb : Below w.heap.size w w') : WIn w' a l := fun i hi => by
  obtain ⟨b, o, e, h0, h1, h2⟩ := h i hi
  exact ⟨b, o, e, (hb.cell (lt_of_cell h0)).trans h0, (hb.cell (lt_of_cell h1)).trans h1, (hb.cell (lt_of_cell h2)).trans h2⟩
end

section
open Go.RowKit

theorem below_drewN {B : Nat} {a w : World} (h : Below B a w) {k : Nat} : Below B a (w.drewN k) := ⟨h.os, h.tape, h.output, h.size, h.block⟩

/-- What an order's number says of whether a thread with k that wait is able to do it. -/
def ableO (own : List Int) (k : Nat) (op a : Int) : Bool :=
  if op = 9 ∨ op = 11 ∨ op = 18 then decide (k < 3)
  else if op = 12 ∨ op = 13 then decide (k = 0)
  else if op = 17 then decide (k = 0) && decide (own.getD a.toNat 0 = -1)
  else true
theorem ableT_more {L : Nat → Nat} {X : Nat → Nat → Nat → Int} {s : Sx} {t : Nat} (h : (thOf s t).pc < L t) : ableT L X s t = ableO s.own (thOf s t).wait.length (opT X s t 0) (opT X s t 1) := by
  unfold ableT endedT
  rw [decide_eq_false (by omega)]
  rfl
theorem ableT_ended {L : Nat → Nat} {X : Nat → Nat → Nat → Int} {s : Sx} {t : Nat} (h : L t ≤ (thOf s t).pc) : ableT L X s t = false := by
  unfold ableT endedT
  rw [decide_eq_true h]
  rfl
end

section
open Go.RowKit

theorem frozen_up {w : World} {a : Addr} (ha : a.block < w.heap.size) (h : w.frozen? a = false) (o : Obj) : (w.alloc o).frozen? a = false := (World.frozen?_of_block (Below.heap_alloc w o a.block ha)).trans h
theorem cell_up2 {w : World} {a : Addr} {v : Value} (h : w.cell? a = some v) (o p : Obj) : ((w.alloc o).alloc p).cell? a = some v := cell_up (cell_up h o) p
theorem frozen_up2 {w : World} {a : Addr} (ha : a.block < w.heap.size) (h : w.frozen? a = false) (o p : Obj) : ((w.alloc o).alloc p).frozen? a = false := frozen_up (by simp; omega) (frozen_up ha h o) p

attribute [local go_sem ↓] appS_eq
end

section
open Go.RowKit

/-- A list of numbers that is being made. -/
structure IsI (w : World) (B : Nat) (a : Option Addr) (len c : Nat) (xs : List Int) : Prop where
  is : xs.length = len
  own : w.ownsRow B 3 1 (.slice a len c) len (intsV xs)
section
variable (L : Nat → Nat) (X : Nat → Nat → Nat → Int) (mode : Int) (s : Sx)
def mvsT (j : Nat) : List Int := (List.range j).flatMap (movesT L X mode s)
def mvsK (t q : Nat) : List Int := mvsT L X mode s t ++ ((if ableT L X s t then [8 * (t : Int)] else []) ++ ((List.range q).filter (fun k => mayW mode (thOf s t).wait k)).map fun (k : Nat) => 8 * (t : Int) + (k : Int) + 1)
theorem mvsT_succ (t : Nat) : mvsT L X mode s (t + 1) = mvsK L X mode s t (thOf s t).wait.length := by
  unfold mvsT mvsK mvsT
  rw [List.range_succ, List.flatMap_append]
  simp [movesT]
theorem mvsT_all : mvsT L X mode s s.ths.length = movesX L X mode s := rfl
theorem mvsK_yes {t : Nat} (h : ableT L X s t = true) : mvsK L X mode s t 0 = mvsT L X mode s t ++ [8 * (t : Int)] := by simp [mvsK, h]
theorem mvsK_no {t : Nat} (h : ableT L X s t = false) : mvsK L X mode s t 0 = mvsT L X mode s t := by simp [mvsK, h]
theorem mvsK_len (t q : Nat) : (mvsK L X mode s t q).length ≤ (mvsT L X mode s t).length + 1 + q := by
  unfold mvsK
  have := List.length_filter_le (fun k => mayW mode (thOf s t).wait k) (List.range q)
  simp only [List.length_append, List.length_map]
  simp only [List.length_range] at this
  split <;> simp <;> omega
theorem mvsT_len (hw : ∀ t, t < s.ths.length → (thOf s t).wait.length ≤ 3) : ∀ j, j ≤ s.ths.length → (mvsT L X mode s j).length ≤ 4 * j
  | 0, _ => by simp [mvsT]
  | j + 1, hj => by
    rw [mvsT_succ]
    have h1 := mvsK_len L X mode s j (thOf s j).wait.length
    have h2 := mvsT_len hw j (by omega)
    have h3 := hw j (by omega)
    omega
end

attribute [local go_sem ↓] appS_eq
end

section
open Go.RowKit

theorem back_none {l : List Wt} {f : Wt → Bool} (h : ∀ p, p < l.length → f (l.getD p default) = false) : l.reverse.find? f = none := by
  rw [List.find?_eq_none]
  intro x hx
  rw [List.mem_reverse] at hx
  obtain ⟨p, hp, rfl⟩ := List.mem_iff_getElem.mp hx
  have e : l.getD p default = l[p] := by simp [List.getD, List.getElem?_eq_getElem hp]
  rw [← e, h p hp]
  simp
theorem back_some {l : List Wt} {f : Wt → Bool} {i : Nat} (hi : i < l.length) (hm : f (l.getD i default) = true) (h : ∀ p, i < p → p < l.length → f (l.getD p default) = false) : l.reverse.find? f = some (l.getD i default) := by
  have e : l = l.take i ++ (l.getD i default :: l.drop (i + 1)) := by
    have e0 : l.getD i default = l[i] := by simp [List.getD, List.getElem?_eq_getElem hi]
    rw [e0, ← List.drop_eq_getElem_cons hi, List.take_append_drop]
  have hd : (l.drop (i + 1)).reverse.find? f = none := by
    refine back_none fun p hp => ?_
    rw [List.length_drop] at hp
    have e1 : (l.drop (i + 1)).getD p default = l.getD (i + 1 + p) default := by simp [List.getD, List.getElem?_drop]
    rw [e1]
    exact h _ (by omega) (by omega)
  conv => lhs; rw [e]
  rw [List.reverse_append, List.reverse_cons, List.append_assoc, List.find?_append, hd]
  simp only [List.singleton_append, List.find?_cons, hm, Option.none_or]
end

section
open Go.RowKit

/-- A region that draws its order, of operations that only read, and at its end some that wait for all of them. -/
theorem region_tail {P : Program} {id : Nat} {Q : Exit → Act → World → Prop} {a : Act} {w : World} {l : List Oper} (n : Nat) (hm : P.follows .mixedOrders = true) (hB : Region.lexTailB .any l.toArray n = true)
    (h : wpStill P l.toArray w.drew (fun a' => wpList P l.toArray Q (l.drop n) a' w.drew) (l.take n) a) : (Code.region id l.toArray true).wp P Q a w := wp_region_still_tail n hm hB h

/-- The state when the thread stands behind its order. -/
def stepS (s : Sx) (t : Nat) : Sx := setTh s t { thOf s t with pc := (thOf s t).pc + 1 }
theorem stepS_len (s : Sx) (t : Nat) : (stepS s t).ths.length = s.ths.length := ths_set _ _ _
theorem stepS_regs {s : Sx} {t : Nat} (ht : t < s.ths.length) (u : Nat) : (thOf (stepS s t) u).regs = (thOf s u).regs := by
  unfold stepS
  rw [thOf_set ht]
  split
  · rename_i h; rw [h]
  · rfl
theorem stepS_wait {s : Sx} {t : Nat} (ht : t < s.ths.length) (u : Nat) : (thOf (stepS s t) u).wait = (thOf s u).wait := by
  unfold stepS
  rw [thOf_set ht]
  split
  · rename_i h; rw [h]
  · rfl
theorem stepS_getR {s : Sx} {t : Nat} (ht : t < s.ths.length) (u : Nat) (r : Int) : getR (stepS s t) u r = getR s u r := by
  unfold getR
  rw [stepS_regs ht]
theorem stepS_jump {s : Sx} {t : Nat} (ht : t < s.ths.length) (k : Nat) : setTh (stepS s t) t { thOf (stepS s t) t with pc := k } = setTh s t { thOf s t with pc := k } := by
  have e : thOf (stepS s t) t = { thOf s t with pc := (thOf s t).pc + 1 } := by unfold stepS; rw [thOf_set ht, if_pos rfl]
  rw [e]
  unfold stepS setTh
  simp

theorem Moved.same {ι : Type} {w w1 w2 : World} {v v1 : ι → Value} (h : Moved w w1 v v1) (e : w2.heap = w1.heap) (e1 : w2.os = w1.os) (e2 : w2.tape = w1.tape) (e3 : w2.output = w1.output) : Moved w w2 v v1 :=
  ⟨e1.trans h.os, e2.trans h.tape, e3.trans h.output, by rw [e]; exact h.size, fun k hk hr => by rw [e]; exact h.block k hk hr, h.fresh⟩
end

section
open Go.RowKit

theorem doX_order {X : Nat → Nat → Nat → Int} {mode : Int} {s : Sx} {t : Nat} : doX X mode s (8 * t) = orderX mode (stepS s t) t (opT X s t 0) (opT X s t 1) (opT X s t 2) (opT X s t 3) := by
  unfold doX
  simp only [show 8 * t / 8 = t by omega, show 8 * t % 8 = 0 by omega]
  rfl
theorem SOk.step {n : Nat} {L : Nat → Nat} {X : Nat → Nat → Nat → Int} {m lk rg : Nat} {mode : Int} {s : Sx} (h : SOk n L m lk rg mode s) (hc : COk n L X m lk rg) (hm : 0 ≤ mode) {t : Nat} (ht : t < n) (ha : ableT L X s t = true) : SOk n L m lk rg mode (doX X mode s (8 * t)) := by
  rw [doX_order]
  have hlt := able_lt ha
  have h1 : SOk n L m lk rg mode (stepS s t) := h.setPc ht (by omega)
  have htl : t < s.ths.length := by rw [h.ths]; exact ht
  exact h1.order ht hm (fun ho => by rw [stepS_wait htl]; exact able_room ha ho) (hc.ord t _ ht hlt)
theorem prints_step {X : Nat → Nat → Nat → Int} {mode : Int} {s : Sx} {t : Nat} : (doX X mode s (8 * t)).prints.length ≤ s.prints.length + 2 := by
  rw [doX_order]
  exact prints_order (stepS s t) t _ _ _ _
end

section
open Go.RowKit

section
variable {w w1 : World} {B : Nat} {P : Pg} {sb : Nat} {v : Rl → Value} {s : Sx}
def newT (rg : Nat) : Th := ⟨0, List.replicate rg 0, []⟩
theorem thOf_push {s : Sx} (x : Th) (u : Nat) : thOf { s with ths := s.ths ++ [x] } u = if u = s.ths.length then x else thOf s u := by
  unfold thOf
  simp only [List.getD]
  by_cases h : u = s.ths.length
  · subst h; simp
  · rw [if_neg h]
    rcases Nat.lt_or_ge u s.ths.length with h1 | h1
    · rw [List.getElem?_append_left h1]
    · rw [List.getElem?_append_right h1, List.getElem?_eq_none h1, List.getElem?_eq_none (by simp; omega)]
end
/-- The state's box alone. -/
def v0 (sb : Nat) : Rl → Value := fun q => if q = .box then boxV sb else nilV
def s0 : Sx := { ths := [], words := [], own := [], prints := [], fell := false }
end

section
open Go.RowKit

theorem made_ints (n : Nat) : madeCells #[Value.int .i64 0] n = (intsV (List.replicate n 0)).toArray := by
  apply Array.ext'
  simp [madeCells, intsV]
  apply List.ext_getElem?
  intro i
  simp only [List.getElem?_map, List.getElem?_replicate]
  by_cases h : i < n
  · simp [h, Nat.mod_one]
  · simp [h]

attribute [local go_sem ↓] appS_eq
end

section
open Go.RowKit

theorem begin_ok {n : Nat} {L : Nat → Nat} {words : List Int} {lk rg : Nat} {mode : Int} : SOk n L words.length lk rg mode (beginX n words lk rg) := by
  have e : ∀ t, t < n → thOf (beginX n words lk rg) t = { pc := 0, regs := List.replicate ((rg : Int)).toNat 0, wait := [] } := fun t ht => by
    unfold thOf beginX
    simp [List.getD, ht]
  refine ⟨by simp [beginX], fun t ht => ?_, fun t ht => ?_, rfl, by simp [beginX], fun t ht => ?_, fun t ht => ?_, fun _ t ht => ?_⟩
  all_goals rw [e t ht]
  · exact Nat.zero_le _
  · simp
  · simp
  · intro x hx; cases hx

theorem cell_set (w : World) (b o : Nat) (x : Value) : (w.setCell ⟨b, o, none⟩ x).cell? ⟨b, o, none⟩ = if (w.cell? ⟨b, o, none⟩).isSome then some x else none := by
  unfold World.cell? World.setCell
  simp only [Array.getElem?_modify, if_true]
  cases h : w.heap[b]? with
  | none => simp
  | some ob =>
    cases ob with
    | cells c e f =>
      simp only [Option.map_some, Option.isSome_none, Bool.false_eq_true, if_false]
      rw [Array.getElem?_setIfInBounds]
      by_cases ho : o < c.size
      · simp [ho]
      · simp [ho]
    | _ => simp
end

section
open Go.RowKit

/-- A list of numbers lies in w. -/
def IIn (w : World) (a : Option Addr) (n : Nat) (X : Nat → Int) : Prop := ∀ i, i < n → ∃ b o, a = some ⟨b, o, none⟩ ∧ w.cell? ⟨b, o + i, none⟩ = some (.int .i64 (X i))
theorem IIn.below {w w' : World} {a : Option Addr} {n : Nat} {X : Nat → Int} (h : IIn w a n X) (hb : Below w.heap.size w w') : IIn w' a n X := fun i hi => by
  obtain ⟨b, o, hc, h1⟩ := h i hi
  exact ⟨b, o, hc, (hb.cell (lt_of_cell h1)).trans h1⟩
end

section
open Go.RowKit

theorem IsI.iin {w : World} {B : Nat} {a : Option Addr} {len c : Nat} {xs : List Int} (h : IsI w B a len c xs) : IIn w a len (fun i => xs.getD i 0) := fun i hi => by
  obtain ⟨g, cap, h1, h2, _, _⟩ := fam_block h.own (by omega)
  simp only [Value.slice.injEq] at h1
  exact ⟨g, 0, h1.1, by simpa using fam_cell h.own h2 (intsV_at (by rw [h.is]; exact hi))⟩
end

section
open Go.RowKit

/-- A list of numbers, all of it, lies in w. -/
abbrev LI (w : World) (a : Option Addr) (x : List Int) : Prop := IIn w a x.length (fun i => x.getD i 0)
/-- An outcome as a value. -/
abbrev ocV (st : Int) (wa : Option Addr) (wl wc : Nat) (pa : Option Addr) (pl pc : Nat) : Value := .agg #[.int .i64 st, .slice wa wl wc, .slice pa pl pc]
end

section
open Go.RowKit

theorem otake_ext {x y : List Oc} {k : Nat} (h : x.take k = y.take k) (h1 : k < x.length) (h2 : k < y.length) (e : x.getD k default = y.getD k default) : x.take (k + 1) = y.take (k + 1) := by
  rw [List.getD_eq_getElem?_getD, List.getD_eq_getElem?_getD, List.getElem?_eq_getElem h1, List.getElem?_eq_getElem h2] at e
  rw [List.take_add_one, List.take_add_one, h, List.getElem?_eq_getElem h1, List.getElem?_eq_getElem h2, show x[k] = y[k] from e]
end

section
open Go.ChangeShapes Go.WideShapes Go.ChangeAt Go.RowKit Go.Joins Go.Deep

theorem cells25 : Tryz.prog.cellsOf 25 = 4 := by kernel_rfl
theorem cells37 : Tryz.prog.cellsOf 37 = 4 := by kernel_rfl
theorem cells35 : Tryz.prog.cellsOf 35 = 1 := by kernel_rfl
theorem cells3 : Tryz.prog.cellsOf 3 = 1 := by kernel_rfl

section
variable {H : Type} {enc : TypeId × Value → H} {w : World}

theorem four {cs : List Value} (h : cs.length = 4) : ∃ a b c d, cs = [a, b, c, d] := by
  match cs, h with
  | [a, b, c, d], _ => exact ⟨a, b, c, d, rfl⟩

theorem read_order {a : Addr} {k fuel : Nat} {cs : List Value} {x : DataW H × List MemPlace} (hc : w.cells? 0 (a.add k) 4 = some cs) (h : DataW.trod enc Tryz.prog w 0 (fun _ => true) true fuel 37 cs = some x) :
    ∃ Y : Nat → Int, (∀ j, j < 4 → w.cell? (a.add (k + j)) = some (.int .i64 (Y j))) ∧ ∀ j, j < 4 → (Lit.int .i64 (Y j)).wf = true := by
  obtain ⟨_, hl, hcell⟩ := World.cells?_some hc
  obtain ⟨y0, y1, y2, y3, n, _, _, h0, h1, h2, h3⟩ := trod_struct4 Tryz.underlying37 h
  obtain ⟨c0, c1, c2, c3, rfl⟩ := four hl
  simp only [cells3] at h0 h1 h2 h3
  obtain ⟨a0, e0, _, w0⟩ := DataW.trod_int Tryz.underlying3 h0
  obtain ⟨a1, e1, _, w1⟩ := DataW.trod_int Tryz.underlying3 h1
  obtain ⟨a2, e2, _, w2⟩ := DataW.trod_int Tryz.underlying3 h2
  obtain ⟨a3, e3, _, w3⟩ := DataW.trod_int Tryz.underlying3 h3
  simp at e0 e1 e2 e3
  subst e0 e1 e2 e3
  refine ⟨fun j => if j = 0 then a0 else if j = 1 then a1 else if j = 2 then a2 else a3, ?_, ?_⟩
  · intro j hj
    rw [← Addr.add_add, hcell j hj]
    rcases (by omega : j = 0 ∨ j = 1 ∨ j = 2 ∨ j = 3) with rfl | rfl | rfl | rfl <;> rfl
  · intro j hj
    rcases (by omega : j = 0 ∨ j = 1 ∨ j = 2 ∨ j = 3) with rfl | rfl | rfl | rfl <;> assumption

theorem read_thread {v : Value} {fuel : Nat} {x : DataW H × List MemPlace} (h : DataW.trod enc Tryz.prog w 0 (fun _ => true) true fuel 35 [v] = some x) :
    ∃ (a : Option Addr) (l c : Nat) (Y : Nat → Nat → Int), v = .slice a l c ∧ l ≤ maxLen ∧ ∀ i, i < l → (∃ b o, a = some ⟨b, o, none⟩ ∧ ∀ j, j < 4 → w.cell? ⟨b, o + (i * 4 + j), none⟩ = some (.int .i64 (Y i j))) ∧ ∀ j, j < 4 → (Lit.int .i64 (Y i j)).wf = true := by
  rcases open_slice Tryz.underlying35 h with ⟨hcs, _⟩ | ⟨a, len, cap, m, n, D, Pl, hcs, _, hl, hm, hmm, _, hx⟩
  · simp at hcs
    exact ⟨none, 0, 0, fun _ _ => 0, hcs, Nat.zero_le _, fun i hi => absurd hi (Nat.not_lt_zero _)⟩
  · simp at hcs hmm
    obtain ⟨Y, hY⟩ := choose_lt (α := Nat → Int) (p := fun i (Y : Nat → Int) => (∀ j, j < 4 → w.cell? (a.add (i * 4 + j)) = some (.int .i64 (Y j))) ∧ ∀ j, j < 4 → (Lit.int .i64 (Y j)).wf = true) (n := len) (fun i hi => by
      obtain ⟨cs', h1, h2⟩ := hx i (by omega)
      rw [cells37] at h1
      exact read_order h1 h2)
    refine ⟨some a, len, cap, Y, hcs, by omega, fun i hi => ⟨?_, (hY i hi).2⟩⟩
    obtain ⟨b, o, sp⟩ := a
    have hsp : sp = none := by simpa [Addr.add] using World.cell?_spot ((hY 0 (by omega)).1 0 (by omega))
    subst hsp
    exact ⟨b, o, rfl, fun j hj => by rw [← Go.WideShapes.add_plain]; exact (hY i hi).1 j hj⟩

theorem read_code {v : Value} {fuel : Nat} {x : DataW H × List MemPlace} (h : DataW.trod enc Tryz.prog w 0 (fun _ => true) true fuel 22 [v] = some x) :
    ∃ (ca : Option Addr) (n cc : Nat) (A : Nat → Option Addr) (L C : Nat → Nat) (X : Nat → Nat → Nat → Int), v = .slice ca n cc ∧ PIn w ca n A L C X ∧ ∀ t i j, t < n → i < L t → j < 4 → (Lit.int .i64 (X t i j)).wf = true := by
  rcases open_slice1 Tryz.underlying22 cells35 h with ⟨hcs, _⟩ | ⟨a, len, cap, m, n, V, D, Pl, hcs, _, hl, hm, hmm, _, hx⟩
  · simp at hcs
    exact ⟨none, 0, 0, fun _ => none, fun _ => 0, fun _ => 0, fun _ _ _ => 0, hcs, ⟨fun t ht => absurd ht (Nat.not_lt_zero _), fun t i ht _ => absurd ht (Nat.not_lt_zero _), fun t ht => absurd ht (Nat.not_lt_zero _), Nat.zero_le _⟩, fun t i j ht => absurd ht (Nat.not_lt_zero _)⟩
  · simp at hcs hmm
    obtain ⟨A, hA⟩ := choose_lt (α := Option Addr × Nat × Nat × (Nat → Nat → Int)) (n := len) (p := fun t q => V t = .slice q.1 q.2.1 q.2.2.1 ∧ q.2.1 ≤ maxLen ∧ ∀ i, i < q.2.1 → (∃ b o, q.1 = some ⟨b, o, none⟩ ∧ ∀ j, j < 4 → w.cell? ⟨b, o + (i * 4 + j), none⟩ = some (.int .i64 (q.2.2.2 i j))) ∧ ∀ j, j < 4 → (Lit.int .i64 (q.2.2.2 i j)).wf = true)
      (fun t ht => let ⟨a', l, c, Y, h1, h2, h3⟩ := read_thread (hx t (by omega)).2; ⟨(a', l, c, Y), h1, h2, h3⟩)
    refine ⟨some a, len, cap, fun t => (A t).1, fun t => (A t).2.1, fun t => (A t).2.2.1, fun t => (A t).2.2.2, hcs, ⟨fun t ht => ?_, fun t i ht hi => ?_, fun t ht => (hA t ht).2.1, by unfold maxLen at hm; omega⟩, fun t i j ht hi hj => ((hA t ht).2.2 i hi).2 j hj⟩
    · obtain ⟨b, o, sp⟩ := a
      have hsp : sp = none := by simpa [Addr.add] using World.cell?_spot (hx 0 (by omega)).1
      subst hsp
      exact ⟨b, o, rfl, by rw [← Go.WideShapes.add_plain, (hx t (by omega)).1, (hA t ht).1]⟩
    · obtain ⟨b, o, h1, h2⟩ := ((hA t ht).2.2 i hi).1
      exact ⟨b, o, h1, by simpa using h2 0 (by omega), by simpa [Nat.add_assoc] using h2 1 (by omega), by simpa [Nat.add_assoc] using h2 2 (by omega), by simpa [Nat.add_assoc] using h2 3 (by omega)⟩
end
end

section
open Go.ChangeShapes Go.WideShapes Go.ChangeAt Go.RowKit Go.Joins Go.Deep

theorem Tryz.own : ownKnob Tryz.prog.godebug = none := by kernel_rfl
theorem Tryz.laidOut : laidOutB Tryz.prog = true := by kernel_rfl
theorem Tryz.readableP : Tryz.prog.readableRec 25 = true := by kernel_rfl
theorem Tryz.readableI : Tryz.prog.readableRec 23 = true := by kernel_rfl
end

end Go.Proofs.YtelckcpjmekgcadGreatDoor
