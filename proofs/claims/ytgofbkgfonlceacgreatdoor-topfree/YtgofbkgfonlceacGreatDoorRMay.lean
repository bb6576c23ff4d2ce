/-
  What waits, as it lies in memory; whether one that waits may be done.
  Whether a thread is able to do its next order.
  One that waited is done; whether a number is a word's; a store.
  What can be picked, all of it.
  What a thread finds in a word.
  A move of the document's run: what lies ahead of a thread's order.
  A move of the document's run: a thread's order, whichever it is.
  A state that is being begun: its words, one lock more, one thread more.
  The document's state ahead of the first step.
  What the document's Run goes by: a script's picks, the run as a plain function, the round's invariant.
  A move of the document's run that does one that waits; what can be picked, whichever the mode.
  What the document's Ints does with two lists of the same numbers.
  A list of numbers that was made is one that can be read.
  The box of a program that was handed in.
  The document's sum of numbers; whether two lists are the same, which comes first; the order of outcomes.
  Whether two lists of outcomes are the same, by the document.
  A program and a script that are handed in, opened.
-/
import Derived.Test.YtgofbkgfonlceacGreatDoorOrder
import Derived.Test.YtgofbkgfonlceacGreatDoorRunP
import Derived.Deep.QuietTactic
import Derived.BigQuiet
import Derived.BigRegion
import Derived.StillTailTactics
import Derived.Deep.AppendSrc
import Derived.Deep.OwnRows
import Derived.Test.YtgofbkgfonlceacGreatDoorPlain
import Derived.Test.YtgofbkgfonlceacGreatDoorWorkP
namespace Go.Proofs.YtgofbkgfonlceacGreatDoor
section
open Go.RowKit

/-- What waits, as it is read. -/
def WIn (w : World) (a : Option Addr) (l : List Wt) : Prop := ∀ i, i < l.length → ∃ b o, a = some ⟨b, o, none⟩ ∧ w.cell? ⟨b, o + i * 3, none⟩ = some (.bool (l.getD i default).lk) ∧ w.cell? ⟨b, o + i * 3 + 1, none⟩ = some (.int .i64 (l.getD i default).wh) ∧ w.cell? ⟨b, o + i * 3 + 2, none⟩ = some (.int .i64 (l.getD i default).what)
theorem WIn.below {w w' : World} {a : Option Addr} {l : List Wt} (h : WIn w a l) (hb : Below w.heap.size w w') : WIn w' a l := fun i hi => by
  obtain ⟨b, o, e, h0, h1, h2⟩ := h i hi
  exact ⟨b, o, e, (hb.cell (lt_of_cell h0)).trans h0, (hb.cell (lt_of_cell h1)).trans h1, (hb.cell (lt_of_cell h2)).trans h2⟩
end

section
open Go.RowKit

theorem below_drewN {B : Nat} {a w : World} (h : Below B a w) {k : Nat} : Below B a (w.drewN k) := ⟨h.os, h.tape, h.output, h.size, h.block⟩

/-- What an order's number says of whether a thread with k that wait is able to do it. -/
def ableO (own : List Int) (k : Nat) (op a : Int) : Bool :=
  if op = 9 ∨ op = 11 ∨ op = 18 then decide (k < 3)
  else if op = 12 ∨ op = 13 then decide (k = 0)
  else if op = 17 then decide (k = 0) && decide (own.getD a.toNat 0 = -1)
  else true
theorem ableT_more {L : Nat → Nat} {X : Nat → Nat → Nat → Int} {s : Sx} {t : Nat} (h : (thOf s t).pc < L t) : ableT L X s t = ableO s.own (thOf s t).wait.length (opT X s t 0) (opT X s t 1) := by
  unfold ableT endedT
  rw [decide_eq_false (by omega)]
  rfl
theorem ableT_ended {L : Nat → Nat} {X : Nat → Nat → Nat → Int} {s : Sx} {t : Nat} (h : L t ≤ (thOf s t).pc) : ableT L X s t = false := by
  unfold ableT endedT
  rw [decide_eq_true h]
  rfl
end

section
open Go.RowKit

theorem frozen_up {w : World} {a : Addr} (ha : a.block < w.heap.size) (h : w.frozen? a = false) (o : Obj) : (w.alloc o).frozen? a = false := (World.frozen?_of_block (Below.heap_alloc w o a.block ha)).trans h
theorem cell_up2 {w : World} {a : Addr} {v : Value} (h : w.cell? a = some v) (o p : Obj) : ((w.alloc o).alloc p).cell? a = some v := cell_up (cell_up h o) p
theorem frozen_up2 {w : World} {a : Addr} (ha : a.block < w.heap.size) (h : w.frozen? a = false) (o p : Obj) : ((w.alloc o).alloc p).frozen? a = false := frozen_up (by simp; omega) (frozen_up ha h o) p

attribute [local go_sem ↓] appS_eq
end

section
open Go.RowKit

/-- A list of numbers that is being made. -/
structure IsI (w : World) (B : Nat) (a : Option Addr) (len c : Nat) (xs : List Int) : Prop where
  is : xs.length = len
  own : w.ownsRow B 3 1 (.slice a len c) len (intsV xs)
section
variable (L : Nat → Nat) (X : Nat → Nat → Nat → Int) (mode : Int) (s : Sx)
def mvsT (j : Nat) : List Int := (List.range j).flatMap (movesT L X mode s)
def mvsK (t q : Nat) : List Int := mvsT L X mode s t ++ ((if ableT L X s t then [8 * (t : Int)] else []) ++ ((List.range q).filter (fun k => mayW mode (thOf s t).wait k)).map fun (k : Nat) => 8 * (t : Int) + (k : Int) + 1)
theorem mvsT_succ (t : Nat) : mvsT L X mode s (t + 1) = mvsK L X mode s t (thOf s t).wait.length := by
  unfold mvsT mvsK mvsT
  rw [List.range_succ, List.flatMap_append]
  simp [movesT]
theorem mvsT_all : mvsT L X mode s s.ths.length = movesX L X mode s := rfl
theorem mvsK_yes {t : Nat} (h : ableT L X s t = true) : mvsK L X mode s t 0 = mvsT L X mode s t ++ [8 * (t : Int)] := by simp [mvsK, h]
theorem mvsK_no {t : Nat} (h : ableT L X s t = false) : mvsK L X mode s t 0 = mvsT L X mode s t := by simp [mvsK, h]
theorem mvsK_len (t q : Nat) : (mvsK L X mode s t q).length ≤ (mvsT L X mode s t).length + 1 + q := by
  unfold mvsK
  have := List.length_filter_le (fun k => mayW mode (thOf s t).wait k) (List.range q)
  simp only [List.length_append, List.length_map]
  simp only [List.length_range] at this
  split <;> simp <;> omega
theorem mvsT_len (hw : ∀ t, t < s.ths.length → (thOf s t).wait.length ≤ 3) : ∀ j, j ≤ s.ths.length → (mvsT L X mode s j).length ≤ 4 * j
  | 0, _ => by simp [mvsT]
  | j + 1, hj => by
    rw [mvsT_succ]
    have h1 := mvsK_len L X mode s j (thOf s j).wait.length
    have h2 := mvsT_len hw j (by omega)
    have h3 := hw j (by omega)
    omega
end

attribute [local go_sem ↓] appS_eq
end

section
open Go.RowKit

theorem back_none {l : List Wt} {f : Wt → Bool} (h : ∀ p, p < l.length → f (l.getD p default) = false) : l.reverse.find? f = none := by
  rw [List.find?_eq_none]
  intro x hx
  rw [List.mem_reverse] at hx
  obtain ⟨p, hp, rfl⟩ := List.mem_iff_getElem.mp hx
  have e : l.getD p default = l[p] := by simp [List.getD, List.getElem?_eq_getElem hp]
  rw [← e, h p hp]
  simp
theorem back_some {l : List Wt} {f : Wt → Bool} {i : Nat} (hi : i < l.length) (hm : f (l.getD i default) = true) (h : ∀ p, i < p → p < l.length → f (l.getD p default) = false) : l.reverse.find? f = some (l.getD i default) := by
  have e : l = l.take i ++ (l.getD i default :: l.drop (i + 1)) := by
    have e0 : l.getD i default = l[i] := by simp [List.getD, List.getElem?_eq_getElem hi]
    rw [e0, ← List.drop_eq_getElem_cons hi, List.take_append_drop]
  have hd : (l.drop (i + 1)).reverse.find? f = none := by
    refine back_none fun p hp => ?_
    rw [List.length_drop] at hp
    have e1 : (l.drop (i + 1)).getD p default = l.getD (i + 1 + p) default := by simp [List.getD, List.getElem?_drop]
    rw [e1]
    exact h _ (by omega) (by omega)
  conv => lhs; rw [e]
  rw [List.reverse_append, List.reverse_cons, List.append_assoc, List.find?_append, hd]
  simp only [List.singleton_append, List.find?_cons, hm, Option.none_or]
end

section
open Go.RowKit

/-- A region that draws its order, of operations that only read, and at its end some that wait for all of them. -/
theorem region_tail {P : Program} {id : Nat} {Q : Exit → Act → World → Prop} {a : Act} {w : World} {l : List Oper} (n : Nat) (hm : P.follows .mixedOrders = true) (hB : Region.lexTailB .any l.toArray n = true)
    (h : wpStill P l.toArray w.drew (fun a' => wpList P l.toArray Q (l.drop n) a' w.drew) (l.take n) a) : (Code.region id l.toArray true).wp P Q a w := wp_region_still_tail n hm hB h

/-- The state when the thread stands behind its order. -/
def stepS (s : Sx) (t : Nat) : Sx := setTh s t { thOf s t with pc := (thOf s t).pc + 1 }
theorem stepS_len (s : Sx) (t : Nat) : (stepS s t).ths.length = s.ths.length := ths_set _ _ _
theorem stepS_regs {s : Sx} {t : Nat} (ht : t < s.ths.length) (u : Nat) : (thOf (stepS s t) u).regs = (thOf s u).regs := by
  unfold stepS
  rw [thOf_set ht]
  split
  · rename_i h; rw [h]
  · rfl
theorem stepS_wait {s : Sx} {t : Nat} (ht : t < s.ths.length) (u : Nat) : (thOf (stepS s t) u).wait = (thOf s u).wait := by
  unfold stepS
  rw [thOf_set ht]
  split
  · rename_i h; rw [h]
  · rfl
theorem stepS_getR {s : Sx} {t : Nat} (ht : t < s.ths.length) (u : Nat) (r : Int) : getR (stepS s t) u r = getR s u r := by
  unfold getR
  rw [stepS_regs ht]
theorem stepS_jump {s : Sx} {t : Nat} (ht : t < s.ths.length) (k : Nat) : setTh (stepS s t) t { thOf (stepS s t) t with pc := k } = setTh s t { thOf s t with pc := k } := by
  have e : thOf (stepS s t) t = { thOf s t with pc := (thOf s t).pc + 1 } := by unfold stepS; rw [thOf_set ht, if_pos rfl]
  rw [e]
  unfold stepS setTh
  simp

theorem Moved.same {ι : Type} {w w1 w2 : World} {v v1 : ι → Value} (h : Moved w w1 v v1) (e : w2.heap = w1.heap) (e1 : w2.os = w1.os) (e2 : w2.tape = w1.tape) (e3 : w2.output = w1.output) : Moved w w2 v v1 :=
  ⟨e1.trans h.os, e2.trans h.tape, e3.trans h.output, by rw [e]; exact h.size, fun k hk hr => by rw [e]; exact h.block k hk hr, h.fresh⟩
end

section
open Go.RowKit

theorem doX_order {X : Nat → Nat → Nat → Int} {mode : Int} {s : Sx} {t : Nat} : doX X mode s (8 * t) = orderX mode (stepS s t) t (opT X s t 0) (opT X s t 1) (opT X s t 2) (opT X s t 3) := by
  unfold doX
  simp only [show 8 * t / 8 = t by omega, show 8 * t % 8 = 0 by omega]
  rfl
theorem SOk.step {n : Nat} {L : Nat → Nat} {X : Nat → Nat → Nat → Int} {m lk rg : Nat} {mode : Int} {s : Sx} (h : SOk n L m lk rg mode s) (hc : COk n L X m lk rg) (hm : 0 ≤ mode) {t : Nat} (ht : t < n) (ha : ableT L X s t = true) : SOk n L m lk rg mode (doX X mode s (8 * t)) := by
  rw [doX_order]
  have hlt := able_lt ha
  have h1 : SOk n L m lk rg mode (stepS s t) := h.setPc ht (by omega)
  have htl : t < s.ths.length := by rw [h.ths]; exact ht
  exact h1.order ht hm (fun ho => by rw [stepS_wait htl]; exact able_room ha ho) (hc.ord t _ ht hlt)
theorem prints_step {X : Nat → Nat → Nat → Int} {mode : Int} {s : Sx} {t : Nat} : (doX X mode s (8 * t)).prints.length ≤ s.prints.length + 2 := by
  rw [doX_order]
  exact prints_order (stepS s t) t _ _ _ _
end

section
open Go.RowKit

section
variable {w w1 : World} {B : Nat} {P : Pg} {sb : Nat} {v : Rl → Value} {s : Sx}
def newT (rg : Nat) : Th := ⟨0, List.replicate rg 0, []⟩
theorem thOf_push {s : Sx} (x : Th) (u : Nat) : thOf { s with ths := s.ths ++ [x] } u = if u = s.ths.length then x else thOf s u := by
  unfold thOf
  simp only [List.getD]
  by_cases h : u = s.ths.length
  · subst h; simp
  · rw [if_neg h]
    rcases Nat.lt_or_ge u s.ths.length with h1 | h1
    · rw [List.getElem?_append_left h1]
    · rw [List.getElem?_append_right h1, List.getElem?_eq_none h1, List.getElem?_eq_none (by simp; omega)]
end
/-- The state's box alone. -/
def v0 (sb : Nat) : Rl → Value := fun q => if q = .box then boxV sb else nilV
def s0 : Sx := { ths := [], words := [], own := [], prints := [], fell := false }
end

section
open Go.RowKit

theorem made_ints (n : Nat) : madeCells #[Value.int .i64 0] n = (intsV (List.replicate n 0)).toArray := by
  apply Array.ext'
  simp [madeCells, intsV]
  apply List.ext_getElem?
  intro i
  simp only [List.getElem?_map, List.getElem?_replicate]
  by_cases h : i < n
  · simp [h, Nat.mod_one]
  · simp [h]

attribute [local go_sem ↓] appS_eq
end

section
open Go.RowKit

theorem begin_ok {n : Nat} {L : Nat → Nat} {words : List Int} {lk rg : Nat} {mode : Int} : SOk n L words.length lk rg mode (beginX n words lk rg) := by
  have e : ∀ t, t < n → thOf (beginX n words lk rg) t = { pc := 0, regs := List.replicate ((rg : Int)).toNat 0, wait := [] } := fun t ht => by
    unfold thOf beginX
    simp [List.getD, ht]
  refine ⟨by simp [beginX], fun t ht => ?_, fun t ht => ?_, rfl, by simp [beginX], fun t ht => ?_, fun t ht => ?_, fun _ t ht => ?_⟩
  all_goals rw [e t ht]
  · exact Nat.zero_le _
  · simp
  · simp
  · intro x hx; cases hx

theorem cell_set (w : World) (b o : Nat) (x : Value) : (w.setCell ⟨b, o, none⟩ x).cell? ⟨b, o, none⟩ = if (w.cell? ⟨b, o, none⟩).isSome then some x else none := by
  unfold World.cell? World.setCell
  simp only [Array.getElem?_modify, if_true]
  cases h : w.heap[b]? with
  | none => simp
  | some ob =>
    cases ob with
    | cells c e f =>
      simp only [Option.map_some, Option.isSome_none, Bool.false_eq_true, if_false]
      rw [Array.getElem?_setIfInBounds]
      by_cases ho : o < c.size
      · simp [ho]
      · simp [ho]
    | _ => simp
end

section
open Go.RowKit

/-- Cells that are stored one behind the other. -/
def putL (xs : List Value) (o : Nat) : List Value → List Value
  | [] => xs
  | u :: us => putL (xs.set o u) (o + 1) us
theorem fam_puts {B : Nat} {e : TypeId} {size : Nat} {v : Value} {n g : Nat} (hg : v.ownBlock = some g) : ∀ (us : List Value) (o : Nat) (w : World) (xs : List Value), w.ownsRow B e size v n xs → (w.setCells g o us).ownsRow B e size v n (putL xs o us)
  | [], _, _, _, h => h
  | u :: us, o, w, _, h => fam_puts hg us (o + 1) (w.setCell ⟨g, o, none⟩ u) _ (fam_put h hg o u)
theorem fam_shrink {w : World} {B : Nat} {e : TypeId} {size : Nat} {n m g cap : Nat} {xs : List Value} (h : w.ownsRow B e size (.slice (some ⟨g, 0, none⟩) n cap) n xs) (hm : m ≤ n) : w.ownsRow B e size (.slice (some ⟨g, 0, none⟩) m cap) m (xs.take (m * size)) := by
  obtain ⟨h0, h1⟩ := h
  have hmul : m * size ≤ n * size := Nat.mul_le_mul_right _ hm
  refine ⟨by rw [List.length_take, h0]; omega, ?_⟩
  rcases h1 with ⟨h1, _⟩ | ⟨g', cap', cur, hv, hg, hh, h2, h3, h4, h5⟩
  · simp at h1
  · simp only [Value.slice.injEq, Option.some.injEq, Addr.mk.injEq, and_true] at hv
    obtain ⟨rfl, _, rfl⟩ := hv
    exact Or.inr ⟨g, cap, cur, rfl, hg, hh, Nat.le_trans hm h2, h3, h4, by rw [← h5, List.take_take, Nat.min_eq_left hmul]⟩
theorem grown_puts (g : Nat) : ∀ (vs : List Value) (o : Nat) (w : World), w.grownBy (w.setCells g o vs) (some g)
  | [], _, _ => ⟨rfl, rfl, rfl, Nat.le_refl _, fun _ _ _ => rfl⟩
  | u :: us, o, w => by
    have h := grown_puts g us (o + 1) (w.setCell ⟨g, o, none⟩ u)
    have hz : (w.setCell ⟨g, o, none⟩ u).heap.size = w.heap.size := by simp [World.setCell]
    exact ⟨h.os, h.tape, h.output, by have := h.size; rw [hz] at this; exact this, fun k hk hne => (h.block k (by rw [hz]; exact hk) hne).trans (Below.heap_setCell _ _ _ _ (fun e => hne (by rw [e])))⟩
theorem waitV_1 (a : Wt) : waitV [a] = [.bool a.lk, .int .i64 a.wh, .int .i64 a.what] := waitV_snoc [] a
theorem waitV_2 (a b : Wt) : waitV [a, b] = [.bool a.lk, .int .i64 a.wh, .int .i64 a.what, .bool b.lk, .int .i64 b.wh, .int .i64 b.what] := by
  rw [show [a, b] = [a] ++ [b] from rfl, waitV_snoc, waitV_1]; rfl
theorem waitV_3 (a b c : Wt) : waitV [a, b, c] = [.bool a.lk, .int .i64 a.wh, .int .i64 a.what, .bool b.lk, .int .i64 b.wh, .int .i64 b.what, .bool c.lk, .int .i64 c.wh, .int .i64 c.what] := by
  rw [show [a, b, c] = [a, b] ++ [c] from rfl, waitV_snoc, waitV_2]; rfl
/-- One taken out of at most three that wait. -/
theorem waitV_cut {l : List Wt} {k : Nat} (hl : l.length ≤ 3) (hk : k < l.length) : (putL (waitV l) (k * 3) ((waitV l).drop ((k + 1) * 3))).take ((l.length - 1) * 3) = waitV (l.eraseIdx k) := by
  match l, k, hl, hk with
  | [a], 0, _, _ => rfl
  | [a, b], 0, _, _ => rw [waitV_2]; rw [show [a, b].eraseIdx 0 = [b] from rfl, waitV_1]; rfl
  | [a, b], 1, _, _ => rw [waitV_2]; rw [show [a, b].eraseIdx 1 = [a] from rfl, waitV_1]; rfl
  | [a, b, c], 0, _, _ => rw [waitV_3]; rw [show [a, b, c].eraseIdx 0 = [b, c] from rfl, waitV_2]; rfl
  | [a, b, c], 1, _, _ => rw [waitV_3]; rw [show [a, b, c].eraseIdx 1 = [a, c] from rfl, waitV_2]; rfl
  | [a, b, c], 2, _, _ => rw [waitV_3]; rw [show [a, b, c].eraseIdx 2 = [a, b] from rfl, waitV_2]; rfl
theorem waitC_one (x : Wt) (j : Nat) : (waitC x j).oneCell' = true := by
  unfold waitC
  split
  · rfl
  · split <;> rfl
theorem waitV_len (l : List Wt) : (waitV l).length = l.length * 3 := rows3_len _ _

/-- What can be picked: an order of a thread that is able, or one that waits and may be done. -/
theorem movesX_mem {L : Nat → Nat} {X : Nat → Nat → Nat → Int} {mode : Int} {s : Sx} {mv : Int} (h : mv ∈ movesX L X mode s) : (∃ t, t < s.ths.length ∧ mv = 8 * (t : Int) ∧ ableT L X s t = true) ∨ ∃ t k, t < s.ths.length ∧ k < (thOf s t).wait.length ∧ mv = 8 * (t : Int) + (k : Int) + 1 ∧ mayW mode (thOf s t).wait k = true := by
  unfold movesX at h
  rw [List.mem_flatMap] at h
  obtain ⟨t, ht, h⟩ := h
  have htn : t < s.ths.length := by simpa using ht
  unfold movesT at h
  rw [List.mem_append] at h
  rcases h with h | h
  · by_cases ha : ableT L X s t = true
    · rw [if_pos ha] at h
      exact Or.inl ⟨t, htn, by simpa using h, ha⟩
    · rw [if_neg ha] at h
      cases h
  · rw [List.mem_map] at h
    obtain ⟨k, hk, e⟩ := h
    rw [List.mem_filter] at hk
    exact Or.inr ⟨t, k, htn, by simpa using hk.1, e.symm, hk.2⟩
theorem doX_wait {X : Nat → Nat → Nat → Int} {mode : Int} {s : Sx} {t k : Nat} (hk : k < 7) : doX X mode s (8 * t + k + 1) = setTh (doneW s ((thOf s t).wait.getD k default)) t { thOf s t with wait := (thOf s t).wait.eraseIdx k } := by
  have hth : ∀ x, thOf (doneW s x) t = thOf s t := fun x => by unfold doneW; split <;> rfl
  unfold doX
  simp only [show (8 * t + k + 1) / 8 = t by omega, show (8 * t + k + 1) % 8 = k + 1 by omega]
  rw [if_pos (by omega)]
  simp only [Nat.add_sub_cancel, hth]
theorem SOk.wait {n : Nat} {L : Nat → Nat} {X : Nat → Nat → Nat → Int} {m lk rg : Nat} {mode : Int} {s : Sx} (h : SOk n L m lk rg mode s) {t k : Nat} (ht : t < n) (hk : k < (thOf s t).wait.length) : SOk n L m lk rg mode (doX X mode s (8 * t + k + 1)) := by
  have hw := h.wlen t ht
  rw [doX_wait (by omega)]
  have h1 := h.done ((thOf s t).wait.getD k default)
  refine h1.th ht (h.pc t ht) (h.regs t ht) ?_ (fun y hy => h.wok t ht y (List.mem_of_mem_eraseIdx hy)) (fun h0 => ?_)
  · have := List.length_eraseIdx_le (thOf s t).wait k
    show ((thOf s t).wait.eraseIdx k).length ≤ 3
    omega
  · show (thOf s t).wait.eraseIdx k = []
    rw [h.bare h0 t ht]; rfl
theorem prints_wait {X : Nat → Nat → Nat → Int} {mode : Int} {s : Sx} {t k : Nat} (hk : k < 7) : (doX X mode s (8 * t + k + 1)).prints = s.prints := by
  rw [doX_wait hk]
  show (doneW s _).prints = _
  unfold doneW
  split <;> rfl
theorem fell_wait {X : Nat → Nat → Nat → Int} {mode : Int} {s : Sx} {t k : Nat} (hk : k < 7) : (doX X mode s (8 * t + k + 1)).fell = s.fell := by
  rw [doX_wait hk]
  show (doneW s _).fell = _
  unfold doneW
  split <;> rfl

attribute [local go_sem ↓] appS_eq
end

section
open Go.RowKit

/-- A list of numbers lies in w. -/
def IIn (w : World) (a : Option Addr) (n : Nat) (X : Nat → Int) : Prop := ∀ i, i < n → ∃ b o, a = some ⟨b, o, none⟩ ∧ w.cell? ⟨b, o + i, none⟩ = some (.int .i64 (X i))
theorem IIn.below {w w' : World} {a : Option Addr} {n : Nat} {X : Nat → Int} (h : IIn w a n X) (hb : Below w.heap.size w w') : IIn w' a n X := fun i hi => by
  obtain ⟨b, o, hc, h1⟩ := h i hi
  exact ⟨b, o, hc, (hb.cell (lt_of_cell h1)).trans h1⟩
end

section
open Go.RowKit

theorem IsI.iin {w : World} {B : Nat} {a : Option Addr} {len c : Nat} {xs : List Int} (h : IsI w B a len c xs) : IIn w a len (fun i => xs.getD i 0) := fun i hi => by
  obtain ⟨g, cap, h1, h2, _, _⟩ := fam_block h.own (by omega)
  simp only [Value.slice.injEq] at h1
  exact ⟨g, 0, h1.1, by simpa using fam_cell h.own h2 (intsV_at (by rw [h.is]; exact hi))⟩
end

section
open Go.RowKit

theorem box_lt {w : World} {g : Nat} {o : Obj} (h : w.heap[g]? = some o) : g < w.heap.size := by
  rcases Nat.lt_or_ge g w.heap.size with h1 | h1
  · exact h1
  · rw [Array.getElem?_eq_none h1] at h; cases h

theorem heap_set_same {w : World} {g i : Nat} {cs : Array Value} {t : TypeId} {u : Value} (h : w.heap[g]? = some (.cells cs t)) : (w.setCell ⟨g, i, none⟩ u).heap[g]? = some (.cells (cs.setIfInBounds i u) t) := by
  simp only [World.setCell, Array.getElem?_modify, if_true, h, Option.map_some]
  rfl

theorem own_type {w : World} {B : Nat} {e t : TypeId} {size : Nat} {v : Value} {n g : Nat} {xs : List Value} {c : Array Value} (h : w.ownsRow B e size v n xs) (hg : w.heap[g]? = some (.cells c t (0, 0))) (hne : e ≠ t) : v.ownBlock ≠ some g := fun e1 => by
  rcases h.2 with ⟨h0, _⟩ | ⟨g', cap, cur, hv, _, hh, _⟩
  · rw [h0] at e1; simp [Value.ownBlock] at e1
  · rw [hv] at e1
    have e2 : g' = g := by simpa [Value.ownBlock] using e1
    subst e2
    rw [hh] at hg
    simp only [Option.some.injEq, Obj.cells.injEq] at hg
    exact hne hg.2.1
theorem box_cell {w : World} {g i : Nat} {cs : Array Value} {t : TypeId} {u : Value} (h : w.heap[g]? = some (.cells cs t)) (hi : cs[i]? = some u) : w.cell? ⟨g, i, none⟩ = some u := by
  simp [World.cell?, h, hi]
theorem box_free {w : World} {g i : Nat} {cs : Array Value} {t : TypeId} (h : w.heap[g]? = some (.cells cs t)) : w.frozen? ⟨g, i, none⟩ = false := by
  simp [World.frozen?, h]
theorem box_later {w : World} {g : Nat} {o : Obj} (h : w.heap[g]? = some o) (p : Obj) : (w.alloc p).heap[g]? = some o := by
  have hl : g < w.heap.size := by
    rcases Nat.lt_or_ge g w.heap.size with h1 | h1
    · exact h1
    · rw [Array.getElem?_eq_none h1] at h; cases h
  exact (((Below.refl w.heap.size w).alloc (Nat.le_refl _) p).block _ hl).trans h
theorem cell_drw {w : World} {a : Addr} {v : Value} (h : w.cell? a = some v) : w.drew.cell? a = some v := h
end

section
open Go.RowKit

/-- A list of numbers, all of it, lies in w. -/
abbrev LI (w : World) (a : Option Addr) (x : List Int) : Prop := IIn w a x.length (fun i => x.getD i 0)
/-- An outcome as a value. -/
abbrev ocV (st : Int) (wa : Option Addr) (wl wc : Nat) (pa : Option Addr) (pl pc : Nat) : Value := .agg #[.int .i64 st, .slice wa wl wc, .slice pa pl pc]
end

section
open Go.RowKit

theorem otake_ext {x y : List Oc} {k : Nat} (h : x.take k = y.take k) (h1 : k < x.length) (h2 : k < y.length) (e : x.getD k default = y.getD k default) : x.take (k + 1) = y.take (k + 1) := by
  rw [List.getD_eq_getElem?_getD, List.getD_eq_getElem?_getD, List.getElem?_eq_getElem h1, List.getElem?_eq_getElem h2] at e
  rw [List.take_add_one, List.take_add_one, h, List.getElem?_eq_getElem h1, List.getElem?_eq_getElem h2, show x[k] = y[k] from e]
end

section
open Go.ChangeShapes Go.WideShapes Go.ChangeAt Go.RowKit Go.Joins Go.Deep

theorem Tryz.own : ownKnob Tryz.prog.godebug = none := by kernel_rfl
theorem Tryz.laidOut : laidOutB Tryz.prog = true := by kernel_rfl
theorem Tryz.readableP : Tryz.prog.readableRec 25 = true := by kernel_rfl
theorem Tryz.readableI : Tryz.prog.readableRec 23 = true := by kernel_rfl
end

end Go.Proofs.YtgofbkgfonlceacGreatDoor
