/-
  Rows that a run owns, each under a name of its own, in blocks that are apart: what a store and an append make of them, and what stays as it was.
  The state of a run of the document as it lies in memory, with all its rows; what a store and an append make of it.
-/
import Derived.Test.YtipdnfpomdcenabGreatDoorPlain
import Derived.WalkKit
import Derived.WalkSpells
import Derived.WalkLawsBesides
import Derived.Deep.AppendLies
import Derived.Test.YtipdnfpomdcenabGreatDoorOrder
namespace Go.Proofs.YtipdnfpomdcenabGreatDoor
section
open Go.RowKit

abbrev nilV : Value := .slice none 0 0
/-- A pointer's block as a row of one. -/
abbrev boxV (b : Nat) : Value := .slice (some ⟨b, 0, none⟩) 1 1

theorem fam_keeps {w w' : World} {B : Nat} {e : TypeId} {size : Nat} {v : Value} {n : Nat} {xs : List Value} (h : w.ownsRow B e size v n xs) (hb : ∀ g, v.ownBlock = some g → w'.heap[g]? = w.heap[g]?) : w'.ownsRow B e size v n xs := by
  refine ⟨h.1, ?_⟩
  rcases h.2 with h0 | ⟨g, cap, cur, hv, hg, hh, r⟩
  · exact Or.inl h0
  · exact Or.inr ⟨g, cap, cur, hv, hg, by rw [hb g (by rw [hv]; rfl)]; exact hh, r⟩
theorem fam_put {w : World} {B : Nat} {e : TypeId} {size : Nat} {v : Value} {n : Nat} {xs : List Value} (h : w.ownsRow B e size v n xs) {g : Nat} (hg : v.ownBlock = some g) (i : Nat) (u : Value) : (w.setCell ⟨g, i, none⟩ u).ownsRow B e size v n (xs.set i u) := by
  refine ⟨by simp [h.1], ?_⟩
  rcases h.2 with ⟨h0, _⟩ | ⟨g', cap', cur, hv, hg', hh, h1, h2, h3, h4⟩
  · rw [h0] at hg; simp [Value.ownBlock] at hg
  · rw [hv] at hg
    have e : g' = g := by simpa [Value.ownBlock] using hg
    subst e
    refine Or.inr ⟨g', cap', cur.setIfInBounds i u, hv, hg', ?_, h1, h2, by simp [h3], ?_⟩
    · simp only [World.setCell, Array.getElem?_modify, if_true, hh, Option.map_some]
      rfl
    · rw [Array.toList_setIfInBounds, List.take_set, h4]
theorem fam_frozen {w : World} {B : Nat} {e : TypeId} {size : Nat} {v : Value} {n : Nat} {xs : List Value} (h : w.ownsRow B e size v n xs) {g : Nat} (hg : v.ownBlock = some g) (i : Nat) : w.frozen? ⟨g, i, none⟩ = false := by
  rcases h.2 with ⟨h0, _⟩ | ⟨g', cap', cur, hv, _, hh, _⟩
  · rw [h0] at hg; simp [Value.ownBlock] at hg
  · rw [hv] at hg
    have e : g' = g := by simpa [Value.ownBlock] using hg
    subst e
    simp [World.frozen?, hh]
theorem fam_cell {w : World} {B : Nat} {e : TypeId} {size : Nat} {v : Value} {n : Nat} {xs : List Value} (h : w.ownsRow B e size v n xs) {g : Nat} (hg : v.ownBlock = some g) {i : Nat} {u : Value} (hu : xs[i]? = some u) : w.cell? ⟨g, i, none⟩ = some u := by
  have := h.cells hg i u hu
  have hadd : (⟨g, 0, none⟩ : Addr).add i = ⟨g, i, none⟩ := by unfold Addr.add; split <;> simp_all
  rwa [hadd] at this
/-- What a value looks like that owns something, or nothing. -/
theorem fam_form {w : World} {B : Nat} {e : TypeId} {size : Nat} {v : Value} {n : Nat} {xs : List Value} (h : w.ownsRow B e size v n xs) : ∃ a cap, v = .slice a n cap := by
  rcases h.2 with ⟨h0, h1⟩ | ⟨g, cap, _, hv, _⟩
  · exact ⟨none, 0, by rw [h0, h1]⟩
  · exact ⟨_, cap, hv⟩
theorem fam_block {w : World} {B : Nat} {e : TypeId} {size : Nat} {v : Value} {n : Nat} {xs : List Value} (h : w.ownsRow B e size v n xs) (hn : 0 < n) : ∃ g cap, v = .slice (some ⟨g, 0, none⟩) n cap ∧ v.ownBlock = some g ∧ B ≤ g ∧ g < w.heap.size := by
  obtain ⟨g, cap, hv, h1, h2⟩ := h.form hn
  exact ⟨g, cap, hv, by rw [hv]; rfl, h1, h2⟩
theorem fam_box {w : World} {B b : Nat} {e : TypeId} {xs : List Value} (hB : B ≤ b) (h : w.heap[b]? = some (.cells xs.toArray e)) : w.ownsRow B e xs.length (boxV b) 1 xs := by
  refine ⟨by simp, Or.inr ⟨b, 1, xs.toArray, rfl, hB, h, Nat.le_refl _, by decide, by simp, by simp⟩⟩

def upd {ι : Type} [DecidableEq ι] {α : Type} (f : ι → α) (r : ι) (x : α) : ι → α := fun q => if q = r then x else f q
section
variable {ι : Type} [DecidableEq ι]
theorem upd_self {α : Type} (f : ι → α) (r : ι) (x : α) : upd f r x r = x := by simp [upd]
theorem upd_ne {α : Type} (f : ι → α) {r q : ι} (x : α) (h : q ≠ r) : upd f r x q = f q := by simp [upd, h]
end

/-- Rows under names, in blocks that are apart. -/
structure Fam {ι : Type} (w : World) (B : Nat) (ty : ι → TypeId) (sz : ι → Nat) (v : ι → Value) (n : ι → Nat) (xs : ι → List Value) : Prop where
  own : ∀ r, w.ownsRow B (ty r) (sz r) (v r) (n r) (xs r)
  apart : ∀ r q g, (v r).ownBlock = some g → (v q).ownBlock = some g → r = q

/-- From w to w1 nothing has turned but the rows v; the rows v1 lie where v lay, or in new memory. -/
structure Moved {ι : Type} (w w1 : World) (v v1 : ι → Value) : Prop where
  os : w1.os = w.os
  tape : w1.tape = w.tape
  output : w1.output = w.output
  size : w.heap.size ≤ w1.heap.size
  block : ∀ k, k < w.heap.size → (∀ r, (v r).ownBlock ≠ some k) → w1.heap[k]? = w.heap[k]?
  fresh : ∀ r g, (v1 r).ownBlock = some g → (∃ q, (v q).ownBlock = some g) ∨ w.heap.size ≤ g

section
variable {ι : Type} {w w1 w2 : World} {B : Nat} {ty : ι → TypeId} {sz : ι → Nat} {v v1 v2 : ι → Value} {n n1 : ι → Nat} {xs xs1 : ι → List Value}

theorem Moved.refl (w : World) (v : ι → Value) : Moved w w v v := ⟨rfl, rfl, rfl, Nat.le_refl _, fun _ _ _ => rfl, fun r _ h => Or.inl ⟨r, h⟩⟩
theorem Moved.trans (h : Moved w w1 v v1) (k : Moved w1 w2 v1 v2) : Moved w w2 v v2 where
  os := k.os.trans h.os
  tape := k.tape.trans h.tape
  output := k.output.trans h.output
  size := Nat.le_trans h.size k.size
  block i hi hr := by
    rw [k.block i (Nat.lt_of_lt_of_le hi h.size) (fun r e => ?_), h.block i hi hr]
    rcases h.fresh r i e with ⟨q, hq⟩ | h1
    · exact hr q hq
    · omega
  fresh r g e := by
    rcases k.fresh r g e with ⟨q, hq⟩ | h1
    · exact h.fresh q g hq
    · exact Or.inr (Nat.le_trans h.size h1)
theorem Moved.of_below (h : Below w.heap.size w w1) : Moved w w1 v v := ⟨h.os, h.tape, h.output, h.size, fun k hk _ => h.block k hk, fun r _ e => Or.inl ⟨r, e⟩⟩
theorem Moved.below (h : Moved w w1 v v1) (hB : B ≤ w.heap.size) (hv : ∀ r g, (v r).ownBlock = some g → B ≤ g) : Below B w w1 :=
  ⟨h.os, h.tape, h.output, h.size, fun k hk => h.block k (by omega) (fun r e => by have := hv r k e; omega)⟩
theorem Moved.drew (h : Moved w w1 v v1) : Moved w w1.drew v v1 := ⟨h.os, h.tape, h.output, h.size, h.block, h.fresh⟩
theorem Moved.cell (h : Moved w w1 v v1) {a : Addr} (ha : a.block < w.heap.size) (hr : ∀ r, (v r).ownBlock ≠ some a.block) : w1.cell? a = w.cell? a := World.cell?_of_block (h.block a.block ha hr)
/-- What lay outside still does. -/
theorem Moved.out (h : Moved w w1 v v1) {k : Nat} (hk : k < w.heap.size) (hr : ∀ r, (v r).ownBlock ≠ some k) : ∀ r, (v1 r).ownBlock ≠ some k := fun r e => by
  rcases h.fresh r k e with ⟨q, hq⟩ | h1
  · exact hr q hq
  · omega

theorem Fam.below (h : Fam w B ty sz v n xs) (hb : Below w.heap.size w w1) : Fam w1 B ty sz v n xs :=
  ⟨fun r => fam_keeps (h.own r) (fun g hg => hb.block g ((h.own r).lt g hg).2), h.apart⟩
theorem Fam.drew (h : Fam w B ty sz v n xs) : Fam w.drew B ty sz v n xs := h.below ((Below.refl _ _).drew)
theorem Fam.low (h : Fam w B ty sz v n xs) : ∀ r g, (v r).ownBlock = some g → B ≤ g := fun r g e => ((h.own r).lt g e).1
theorem Fam.lt (h : Fam w B ty sz v n xs) {r : ι} {g : Nat} (e : (v r).ownBlock = some g) : g < w.heap.size := ((h.own r).lt g e).2
theorem Fam.ne (h : Fam w B ty sz v n xs) {r q : ι} {g k : Nat} (e : (v r).ownBlock = some g) (f : (v q).ownBlock = some k) (hne : r ≠ q) : g ≠ k := fun x => hne (h.apart r q g e (by rw [x]; exact f))
theorem Fam.cell (h : Fam w B ty sz v n xs) {r : ι} {g i : Nat} {u : Value} (e : (v r).ownBlock = some g) (hu : (xs r)[i]? = some u) : w.cell? ⟨g, i, none⟩ = some u := fam_cell (h.own r) e hu
theorem Fam.frozen (h : Fam w B ty sz v n xs) {r : ι} {g : Nat} (e : (v r).ownBlock = some g) (i : Nat) : w.frozen? ⟨g, i, none⟩ = false := fam_frozen (h.own r) e i
/-- The same, said otherwise. -/
theorem Fam.same (h : Fam w B ty sz v n xs) (hn : ∀ r, n1 r = n r) (hx : ∀ r, xs1 r = xs r) : Fam w B ty sz v n1 xs1 := ⟨fun r => by rw [hn, hx]; exact h.own r, h.apart⟩

/-- A store into a row. -/
theorem Fam.put (h : Fam w B ty sz v n xs) {r : ι} {g : Nat} (e : (v r).ownBlock = some g) (i : Nat) (u : Value) (hn : ∀ q, n1 q = n q) (hr : xs1 r = (xs r).set i u) (hne : ∀ q, q ≠ r → xs1 q = xs q) : Fam (w.setCell ⟨g, i, none⟩ u) B ty sz v n1 xs1 := by
  refine ⟨fun q => ?_, h.apart⟩
  rw [hn q]
  by_cases hq : q = r
  · subst hq
    rw [hr]
    exact fam_put (h.own q) e i u
  · rw [hne q hq]
    exact fam_keeps (h.own q) (fun k hk => Below.heap_setCell _ _ _ _ (h.ne hk e hq))
theorem Moved.put (h : Moved w w1 v v1) {r : ι} {g : Nat} (e : (v1 r).ownBlock = some g) (i : Nat) (u : Value) : Moved w (w1.setCell ⟨g, i, none⟩ u) v v1 :=
  h.trans ⟨rfl, rfl, rfl, by simp [World.setCell], fun k _ hk => Below.heap_setCell _ _ _ _ (fun x => hk r (by rw [x]; exact e)), fun r _ e => Or.inl ⟨r, e⟩⟩
theorem Moved.alloc (h : Moved w w1 v v1) (o : Obj) : Moved w (w1.alloc o) v v1 := h.trans (Moved.of_below ((Below.refl _ _).alloc (Nat.le_refl _) _))

variable [DecidableEq ι]
/-- An append to a row: it lies where it lay, or in new memory. -/
theorem Fam.grow (h : Fam w B ty sz v n xs) {r : ι} {g m c H : Nat} {ys : List Value} (hown : w1.ownsRow B (ty r) (sz r) (.slice (some ⟨g, 0, none⟩) m c) m ys) (hgrow : w.grownBy w1 (v r).ownBlock) (hat : (v r).ownBlock = some g ∨ g = H) (hH : w.heap.size ≤ H)
    (hn : n1 r = m) (hnn : ∀ q, q ≠ r → n1 q = n q) (hr : xs1 r = ys) (hne : ∀ q, q ≠ r → xs1 q = xs q) : Fam w1 B ty sz (upd v r (.slice (some ⟨g, 0, none⟩) m c)) n1 xs1 := by
  have far : ∀ q k, q ≠ r → (v q).ownBlock = some k → k ≠ g := fun q k hq hk e => by
    rcases hat with h1 | h1
    · exact hq (h.apart q r k hk (by rw [e]; exact h1))
    · have := h.lt hk; omega
  refine ⟨fun q => ?_, ?_⟩
  · by_cases hq : q = r
    · subst hq
      rw [hr, hn, upd_self]
      exact hown
    · rw [hne q hq, hnn q hq, upd_ne _ _ hq]
      refine fam_keeps (h.own q) fun k hk => hgrow.block k (h.lt hk) (fun e => hq (h.apart q r k hk e.symm))
  · intro a b k ha hb
    by_cases h1 : a = r
    · by_cases h2 : b = r
      · rw [h1, h2]
      · subst h1
        rw [upd_self] at ha
        rw [upd_ne _ _ h2] at hb
        have e : g = k := by simpa [Value.ownBlock] using ha
        exact absurd e.symm (far b k h2 hb)
    · rw [upd_ne _ _ h1] at ha
      by_cases h2 : b = r
      · subst h2
        rw [upd_self] at hb
        have e : g = k := by simpa [Value.ownBlock] using hb
        exact absurd e.symm (far a k h1 ha)
      · rw [upd_ne _ _ h2] at hb
        exact h.apart a b k ha hb
theorem Moved.grow (h : Moved w w1 v v1) {r : ι} {g m c H : Nat} (hgrow : w1.grownBy w2 (v1 r).ownBlock) (hat : (v1 r).ownBlock = some g ∨ g = H) (hH : w1.heap.size ≤ H) : Moved w w2 v (upd v1 r (.slice (some ⟨g, 0, none⟩) m c)) := by
  refine h.trans ⟨hgrow.os, hgrow.tape, hgrow.output, hgrow.size, fun k hk hr => hgrow.block k hk (fun e => hr r e.symm), fun q k e => ?_⟩
  by_cases hq : q = r
  · subst hq
    rw [upd_self] at e
    have e' : g = k := by simpa [Value.ownBlock] using e
    subst e'
    rcases hat with h1 | h1
    · exact Or.inl ⟨q, h1⟩
    · exact Or.inr (by omega)
  · rw [upd_ne _ _ hq] at e
    exact Or.inl ⟨q, e⟩
/-- A row that was nothing lies in a new block. -/
theorem Fam.lay (h : Fam w B ty sz v n xs) {r : ι} {g : Nat} {x : Value} (hx : x.ownBlock = some g) (h0 : (v r).ownBlock = none) (hg : ∀ q, (v q).ownBlock ≠ some g) (hown : w.ownsRow B (ty r) (sz r) x (n1 r) (xs1 r)) (hnn : ∀ q, q ≠ r → n1 q = n q) (hne : ∀ q, q ≠ r → xs1 q = xs q) : Fam w B ty sz (upd v r x) n1 xs1 := by
  refine ⟨fun q => ?_, ?_⟩
  · by_cases hq : q = r
    · subst hq
      rw [upd_self]
      exact hown
    · rw [hne q hq, hnn q hq, upd_ne _ _ hq]
      exact h.own q
  · intro a b k ha hb
    by_cases h1 : a = r
    · by_cases h2 : b = r
      · rw [h1, h2]
      · subst h1
        rw [upd_self, hx] at ha
        rw [upd_ne _ _ h2] at hb
        exact absurd hb (by rw [← ha]; exact hg b)
    · rw [upd_ne _ _ h1] at ha
      by_cases h2 : b = r
      · subst h2
        rw [upd_self, hx] at hb
        exact absurd ha (by rw [← hb]; exact hg a)
      · rw [upd_ne _ _ h2] at hb
        exact h.apart a b k ha hb
end

/-! Rows of three cells each. -/
def rows3 (n : Nat) (f : Nat → Nat → Value) : List Value := (List.range (n * 3)).map fun i => f (i / 3) (i % 3)
theorem rows3_len (n : Nat) (f : Nat → Nat → Value) : (rows3 n f).length = n * 3 := by simp [rows3]
theorem rows3_at (n : Nat) (f : Nat → Nat → Value) (i : Nat) : (rows3 n f)[i]? = if i < n * 3 then some (f (i / 3) (i % 3)) else none := by
  unfold rows3
  rw [List.getElem?_map]
  by_cases h : i < n * 3
  · rw [if_pos h, List.getElem?_range h]; rfl
  · rw [if_neg h, List.getElem?_eq_none (by simp; omega)]; rfl
theorem rows3_get {n : Nat} {f : Nat → Nat → Value} {t j : Nat} (ht : t < n) (hj : j < 3) : (rows3 n f)[t * 3 + j]? = some (f t j) := by
  rw [rows3_at, if_pos (by omega), show (t * 3 + j) / 3 = t by omega, show (t * 3 + j) % 3 = j by omega]
theorem rows3_set {n : Nat} {f g : Nat → Nat → Value} {t j : Nat} {u : Value} (hj : j < 3) (hu : g t j = u) (hg : ∀ a b, b < 3 → ¬ (a = t ∧ b = j) → g a b = f a b) : rows3 n g = (rows3 n f).set (t * 3 + j) u := by
  refine List.ext_getElem? fun i => ?_
  rw [List.getElem?_set, rows3_at, rows3_at, rows3_len]
  by_cases h : t * 3 + j = i
  · rw [if_pos h]
    by_cases hi : i < n * 3
    · rw [if_pos hi, if_pos (by omega), show i / 3 = t by omega, show i % 3 = j by omega, hu]
    · rw [if_neg hi, if_neg (by omega)]
  · rw [if_neg h]
    by_cases hi : i < n * 3
    · rw [if_pos hi, if_pos hi, hg _ _ (by omega) (fun e => h (by omega))]
    · rw [if_neg hi, if_neg hi]
theorem rows3_snoc (n : Nat) (f : Nat → Nat → Value) : rows3 (n + 1) f = rows3 n f ++ [f n 0, f n 1, f n 2] := by
  unfold rows3
  rw [show (n + 1) * 3 = n * 3 + 1 + 1 + 1 by omega, List.range_succ, List.range_succ, List.range_succ]
  simp only [List.map_append, List.map_cons, List.map_nil, List.append_assoc, List.cons_append, List.nil_append]
  rw [show n * 3 / 3 = n by omega, show n * 3 % 3 = 0 by omega, show (n * 3 + 1) / 3 = n by omega, show (n * 3 + 1) % 3 = 1 by omega, show (n * 3 + 1 + 1) / 3 = n by omega, show (n * 3 + 1 + 1) % 3 = 2 by omega]
theorem rows3_congr {n : Nat} {f g : Nat → Nat → Value} (h : ∀ t j, t < n → g t j = f t j) : rows3 n g = rows3 n f := by
  refine List.ext_getElem? fun i => ?_
  rw [rows3_at, rows3_at]
  by_cases hi : i < n * 3
  · rw [if_pos hi, if_pos hi, h _ _ (by omega)]
  · rw [if_neg hi, if_neg hi]
end

section
open Go.RowKit

/-- The rows of a state. -/
inductive Rl where
  | box
  | thr
  | words
  | own
  | prints
  | regs (t : Nat)
  | wait (t : Nat)
deriving DecidableEq

def rTy : Rl → TypeId
  | .box => 89
  | .thr => 95
  | .wait _ => 177
  | _ => 3
def rSz : Rl → Nat
  | .box => 10
  | .thr => 3
  | .wait _ => 3
  | _ => 1
def rN (s : Sx) : Rl → Nat
  | .box => 1
  | .thr => s.ths.length
  | .words => s.words.length
  | .own => s.own.length
  | .prints => s.prints.length
  | .regs t => (thOf s t).regs.length
  | .wait t => (thOf s t).wait.length
/-- A program as a value, and the mode. -/
structure Pg where
  ca : Option Addr
  n : Nat
  cc : Nat
  wa : Option Addr
  m : Nat
  wc : Nat
  lk : Int
  rg : Int
  mode : Int
def intsV (l : List Int) : List Value := l.map (Value.int .i64)
def waitC (x : Wt) (j : Nat) : Value := if j = 0 then .bool x.lk else if j = 1 then .int .i64 x.wh else .int .i64 x.what
def waitV (l : List Wt) : List Value := rows3 l.length fun i j => waitC (l.getD i default) j
def thrC (v : Rl → Value) (s : Sx) (t j : Nat) : Value := if j = 0 then .int .i64 (thOf s t).pc else if j = 1 then v (.regs t) else v (.wait t)
def rX (P : Pg) (v : Rl → Value) (s : Sx) : Rl → List Value
  | .box => [.slice P.ca P.n P.cc, .slice P.wa P.m P.wc, .int .i64 P.lk, .int .i64 P.rg, .int .i64 P.mode, v .thr, v .words, v .own, v .prints, .bool s.fell]
  | .thr => rows3 s.ths.length (thrC v s)
  | .words => intsV s.words
  | .own => intsV s.own
  | .prints => intsV s.prints
  | .regs t => intsV (thOf s t).regs
  | .wait t => waitV (thOf s t).wait

structure DSt (w : World) (B : Nat) (P : Pg) (sb : Nat) (v : Rl → Value) (s : Sx) : Prop where
  fam : Fam w B rTy rSz v (rN s) (rX P v s)
  box : v .box = boxV sb

theorem intsV_at {l : List Int} {i : Nat} (h : i < l.length) : (intsV l)[i]? = some (.int .i64 (l.getD i 0)) := by
  unfold intsV
  rw [List.getElem?_map, List.getElem?_eq_getElem h]
  simp [List.getD, List.getElem?_eq_getElem h]
theorem intsV_set (l : List Int) (i : Nat) (x : Int) : intsV (l.set i x) = (intsV l).set i (.int .i64 x) := by simp [intsV, List.map_set]
theorem intsV_len (l : List Int) : (intsV l).length = l.length := by simp [intsV]
theorem thOf_set {s : Sx} {t : Nat} (ht : t < s.ths.length) (x : Th) (u : Nat) : thOf (setTh s t x) u = if u = t then x else thOf s u := by
  unfold thOf setTh
  simp only [List.getD, List.getElem?_set]
  by_cases h : u = t
  · subst h; simp [ht]
  · rw [if_neg (fun e => h e.symm), if_neg h]

section
variable {w w1 : World} {B : Nat} {P : Pg} {sb : Nat} {v : Rl → Value} {s : Sx}

theorem DSt.below (h : DSt w B P sb v s) (hb : Below w.heap.size w w1) : DSt w1 B P sb v s := ⟨h.fam.below hb, h.box⟩
theorem DSt.bblk (h : DSt w B P sb v s) : (v .box).ownBlock = some sb := by rw [h.box]; rfl
theorem DSt.c0 (h : DSt w B P sb v s) : w.cell? ⟨sb, 0, none⟩ = some (.slice P.ca P.n P.cc) := h.fam.cell h.bblk rfl
theorem DSt.c4 (h : DSt w B P sb v s) : w.cell? ⟨sb, 4, none⟩ = some (.int .i64 P.mode) := h.fam.cell h.bblk rfl
theorem DSt.c5 (h : DSt w B P sb v s) : w.cell? ⟨sb, 5, none⟩ = some (v .thr) := h.fam.cell h.bblk rfl
theorem DSt.c6 (h : DSt w B P sb v s) : w.cell? ⟨sb, 6, none⟩ = some (v .words) := h.fam.cell h.bblk rfl
theorem DSt.c7 (h : DSt w B P sb v s) : w.cell? ⟨sb, 7, none⟩ = some (v .own) := h.fam.cell h.bblk rfl
theorem DSt.c8 (h : DSt w B P sb v s) : w.cell? ⟨sb, 8, none⟩ = some (v .prints) := h.fam.cell h.bblk rfl
theorem DSt.c9 (h : DSt w B P sb v s) : w.cell? ⟨sb, 9, none⟩ = some (.bool s.fell) := h.fam.cell h.bblk rfl
theorem DSt.thrB (h : DSt w B P sb v s) (hn : 0 < s.ths.length) : ∃ tb tc, v .thr = .slice (some ⟨tb, 0, none⟩) s.ths.length tc ∧ (v .thr).ownBlock = some tb ∧ tb < w.heap.size := by
  obtain ⟨g, c, h1, h2, _, h4⟩ := fam_block (h.fam.own .thr) (by exact hn)
  exact ⟨g, c, h1, h2, h4⟩
theorem DSt.wordsV (h : DSt w B P sb v s) : ∃ a c, v .words = .slice a s.words.length c := fam_form (h.fam.own .words)
theorem DSt.ownV (h : DSt w B P sb v s) : ∃ a c, v .own = .slice a s.own.length c := fam_form (h.fam.own .own)
theorem DSt.printsV (h : DSt w B P sb v s) : ∃ a c, v .prints = .slice a s.prints.length c := fam_form (h.fam.own .prints)
theorem DSt.waitV (h : DSt w B P sb v s) (t : Nat) : ∃ a c, v (.wait t) = .slice a (thOf s t).wait.length c := fam_form (h.fam.own (.wait t))
theorem DSt.regsV (h : DSt w B P sb v s) (t : Nat) : ∃ a c, v (.regs t) = .slice a (thOf s t).regs.length c := fam_form (h.fam.own (.regs t))
theorem DSt.regsB (h : DSt w B P sb v s) {t : Nat} (hn : 0 < (thOf s t).regs.length) : ∃ rb rc, v (.regs t) = .slice (some ⟨rb, 0, none⟩) (thOf s t).regs.length rc ∧ (v (.regs t)).ownBlock = some rb ∧ rb < w.heap.size := by
  obtain ⟨g, c, h1, h2, _, h4⟩ := fam_block (h.fam.own (.regs t)) (by exact hn)
  exact ⟨g, c, h1, h2, h4⟩
theorem DSt.wordsB (h : DSt w B P sb v s) (hn : 0 < s.words.length) : ∃ rb rc, v .words = .slice (some ⟨rb, 0, none⟩) s.words.length rc ∧ (v .words).ownBlock = some rb ∧ rb < w.heap.size := by
  obtain ⟨g, c, h1, h2, _, h4⟩ := fam_block (h.fam.own .words) (by exact hn)
  exact ⟨g, c, h1, h2, h4⟩
theorem DSt.ownB (h : DSt w B P sb v s) (hn : 0 < s.own.length) : ∃ rb rc, v .own = .slice (some ⟨rb, 0, none⟩) s.own.length rc ∧ (v .own).ownBlock = some rb ∧ rb < w.heap.size := by
  obtain ⟨g, c, h1, h2, _, h4⟩ := fam_block (h.fam.own .own) (by exact hn)
  exact ⟨g, c, h1, h2, h4⟩
theorem DSt.waitB (h : DSt w B P sb v s) {t : Nat} (hn : 0 < (thOf s t).wait.length) : ∃ rb rc, v (.wait t) = .slice (some ⟨rb, 0, none⟩) (thOf s t).wait.length rc ∧ (v (.wait t)).ownBlock = some rb ∧ rb < w.heap.size := by
  obtain ⟨g, c, h1, h2, _, h4⟩ := fam_block (h.fam.own (.wait t)) (by exact hn)
  exact ⟨g, c, h1, h2, h4⟩
theorem DSt.pc (h : DSt w B P sb v s) {tb t : Nat} (e : (v .thr).ownBlock = some tb) (ht : t < s.ths.length) : w.cell? ⟨tb, t * 3, none⟩ = some (.int .i64 (thOf s t).pc) := h.fam.cell e (rows3_get (j := 0) ht (by omega))
theorem DSt.regs (h : DSt w B P sb v s) {tb t : Nat} (e : (v .thr).ownBlock = some tb) (ht : t < s.ths.length) : w.cell? ⟨tb, t * 3 + 1, none⟩ = some (v (.regs t)) := h.fam.cell e (rows3_get (j := 1) ht (by omega))
theorem DSt.wait (h : DSt w B P sb v s) {tb t : Nat} (e : (v .thr).ownBlock = some tb) (ht : t < s.ths.length) : w.cell? ⟨tb, t * 3 + 2, none⟩ = some (v (.wait t)) := h.fam.cell e (rows3_get (j := 2) ht (by omega))
theorem DSt.reg (h : DSt w B P sb v s) {rb t r : Nat} (e : (v (.regs t)).ownBlock = some rb) (hr : r < (thOf s t).regs.length) : w.cell? ⟨rb, r, none⟩ = some (.int .i64 (getR s t r)) := by
  refine (h.fam.cell e (intsV_at hr)).trans ?_
  simp [getR]
theorem DSt.word (h : DSt w B P sb v s) {rb r : Nat} (e : (v .words).ownBlock = some rb) (hr : r < s.words.length) : w.cell? ⟨rb, r, none⟩ = some (.int .i64 (s.words.getD r 0)) := h.fam.cell e (intsV_at hr)
theorem DSt.owner (h : DSt w B P sb v s) {rb r : Nat} (e : (v .own).ownBlock = some rb) (hr : r < s.own.length) : w.cell? ⟨rb, r, none⟩ = some (.int .i64 (s.own.getD r 0)) := h.fam.cell e (intsV_at hr)
theorem DSt.sin (h : DSt w B P sb v s) {tb tc : Nat} (e : v .thr = .slice (some ⟨tb, 0, none⟩) s.ths.length tc) : SIn w sb P.ca P.n P.cc P.mode tb tc (fun t => v (.regs t)) (fun t => v (.wait t)) (v .words) (v .own) (v .prints) s :=
  ⟨h.c0, h.c4, by rw [← e]; exact h.c5, h.c6, h.c7, h.c8, h.c9, fun _ ht => h.pc (by rw [e]; rfl) ht, fun _ ht => h.regs (by rw [e]; rfl) ht, fun _ ht => h.wait (by rw [e]; rfl) ht⟩

theorem ths_set (s : Sx) (t : Nat) (x : Th) : (setTh s t x).ths.length = s.ths.length := by simp [setTh]
theorem rN_setTh {t : Nat} (ht : t < s.ths.length) {x : Th} (hr : x.regs.length = (thOf s t).regs.length) (hw : x.wait.length = (thOf s t).wait.length) : ∀ q, rN (setTh s t x) q = rN s q
  | .box => rfl
  | .thr => ths_set _ _ _
  | .words => rfl
  | .own => rfl
  | .prints => rfl
  | .regs u => by
    show (thOf (setTh s t x) u).regs.length = (thOf s u).regs.length
    rw [thOf_set ht]
    split
    · rename_i h; rw [h]; exact hr
    · rfl
  | .wait u => by
    show (thOf (setTh s t x) u).wait.length = (thOf s u).wait.length
    rw [thOf_set ht]
    split
    · rename_i h; rw [h]; exact hw
    · rfl
/-- What a change of a thread leaves as it was. -/
theorem rX_setTh {t : Nat} (ht : t < s.ths.length) {x : Th} : (∀ q, q ≠ .thr → (q = .regs t → x.regs = (thOf s t).regs) → (q = .wait t → x.wait = (thOf s t).wait) → rX P v (setTh s t x) q = rX P v s q)
  | .box, _, _, _ => rfl
  | .thr, h, _, _ => absurd rfl h
  | .words, _, _, _ => rfl
  | .own, _, _, _ => rfl
  | .prints, _, _, _ => rfl
  | .regs u, _, h, _ => by
    show intsV (thOf (setTh s t x) u).regs = intsV (thOf s u).regs
    rw [thOf_set ht]
    split
    · rename_i e; subst e; rw [h rfl]
    · rfl
  | .wait u, _, _, h => by
    show Go.Proofs.YtipdnfpomdcenabGreatDoor.waitV (thOf (setTh s t x) u).wait = Go.Proofs.YtipdnfpomdcenabGreatDoor.waitV (thOf s u).wait
    rw [thOf_set ht]
    split
    · rename_i e; subst e; rw [h rfl]
    · rfl
/-- A change of a thread that keeps its place leaves the row of threads as it was. -/
theorem rX_thr {t : Nat} (ht : t < s.ths.length) {x : Th} (hp : x.pc = (thOf s t).pc) : rX P v (setTh s t x) .thr = rX P v s .thr := by
  show rows3 (setTh s t x).ths.length (thrC v (setTh s t x)) = rows3 s.ths.length (thrC v s)
  rw [ths_set]
  refine rows3_congr fun a b _ => ?_
  unfold thrC
  rw [thOf_set ht]
  by_cases h1 : a = t
  · subst h1; rw [if_pos rfl, hp]
  · rw [if_neg h1]

/-- A thread's place. -/
theorem DSt.setPc (h : DSt w B P sb v s) {tb t : Nat} (e : (v .thr).ownBlock = some tb) (ht : t < s.ths.length) (k : Nat) : DSt (w.setCell ⟨tb, t * 3, none⟩ (.int .i64 k)) B P sb v (setTh s t { thOf s t with pc := k }) := by
  refine ⟨h.fam.put (r := .thr) e (t * 3) _ (rN_setTh ht rfl rfl) ?_ (fun q hq => rX_setTh ht q hq (fun _ => rfl) (fun _ => rfl)), h.box⟩
  show rows3 (setTh s t _).ths.length (thrC v (setTh s t _)) = (rows3 s.ths.length (thrC v s)).set (t * 3 + 0) _
  rw [ths_set]
  refine rows3_set (by omega) ?_ ?_
  · simp [thrC, thOf_set ht]
  · intro a b _ hab
    simp only [thrC, thOf_set ht]
    by_cases h1 : a = t
    · subst h1
      have : b ≠ 0 := fun e => hab ⟨rfl, e⟩
      simp [this]
    · simp [h1]
/-- A register. -/
theorem DSt.setReg (h : DSt w B P sb v s) {rb t : Nat} (e : (v (.regs t)).ownBlock = some rb) (ht : t < s.ths.length) (r : Nat) (x : Int) : DSt (w.setCell ⟨rb, r, none⟩ (.int .i64 x)) B P sb v (setR s t r x) := by
  refine ⟨h.fam.put (r := .regs t) e r _ (rN_setTh ht (by simp) rfl) ?_ (fun q hq => ?_), h.box⟩
  · show intsV (thOf (setR s t r x) t).regs = (intsV (thOf s t).regs).set r _
    rw [setR, thOf_set ht, if_pos rfl, intsV_set]
    simp
  · by_cases h1 : q = .thr
    · subst h1; exact rX_thr ht rfl
    · exact rX_setTh ht q h1 (fun e => absurd e hq) (fun _ => rfl)
/-- A word. -/
theorem DSt.setWord (h : DSt w B P sb v s) {rb : Nat} (e : (v .words).ownBlock = some rb) (r : Nat) (x : Int) : DSt (w.setCell ⟨rb, r, none⟩ (.int .i64 x)) B P sb v { s with words := s.words.set r x } := by
  refine ⟨h.fam.put (r := .words) e r _ (fun q => ?_) ?_ (fun q hq => ?_), h.box⟩
  · cases q <;> first | rfl | simp [rN]
  · exact intsV_set _ _ _
  · cases q <;> first | rfl | exact absurd rfl hq
/-- A lock. -/
theorem DSt.setOwn (h : DSt w B P sb v s) {rb : Nat} (e : (v .own).ownBlock = some rb) (r : Nat) (x : Int) : DSt (w.setCell ⟨rb, r, none⟩ (.int .i64 x)) B P sb v { s with own := s.own.set r x } := by
  refine ⟨h.fam.put (r := .own) e r _ (fun q => ?_) ?_ (fun q hq => ?_), h.box⟩
  · cases q <;> first | rfl | simp [rN]
  · exact intsV_set _ _ _
  · cases q <;> first | rfl | exact absurd rfl hq
/-- The run falls. -/
theorem DSt.fall (h : DSt w B P sb v s) : DSt (w.setCell ⟨sb, 9, none⟩ (.bool true)) B P sb v (fallX s) := by
  refine ⟨h.fam.put (r := .box) h.bblk 9 _ (fun q => ?_) rfl (fun q hq => ?_), h.box⟩
  · cases q <;> rfl
  · cases q <;> first | rfl | exact absurd rfl hq
/-- A print. -/
theorem DSt.print (h : DSt w B P sb v s) {g c H : Nat} {a b : Int} (hown : w1.ownsRow B 3 1 (.slice (some ⟨g, 0, none⟩) (s.prints.length + 2) c) (s.prints.length + 2) (intsV s.prints ++ [.int .i64 a, .int .i64 b])) (hgrow : w.grownBy w1 (v .prints).ownBlock) (hat : (v .prints).ownBlock = some g ∨ g = H) (hH : w.heap.size ≤ H) :
    DSt (w1.setCell ⟨sb, 8, none⟩ (.slice (some ⟨g, 0, none⟩) (s.prints.length + 2) c)) B P sb (upd v .prints (.slice (some ⟨g, 0, none⟩) (s.prints.length + 2) c)) { s with prints := s.prints ++ [a, b] } := by
  obtain ⟨x, hx⟩ : ∃ x : Value, x = .slice (some ⟨g, 0, none⟩) (s.prints.length + 2) c := ⟨_, rfl⟩
  have h1 := h.fam.grow (r := .prints) (n1 := rN { s with prints := s.prints ++ [a, b] }) (xs1 := fun q => if q = .prints then intsV s.prints ++ [.int .i64 a, .int .i64 b] else rX P v s q) hown hgrow hat hH (by simp [rN]) (fun q hq => by cases q <;> first | rfl | exact absurd rfl hq) (if_pos rfl) (fun q hq => if_neg hq)
  rw [← hx] at h1 ⊢
  refine ⟨h1.put (r := .box) (by rw [upd_ne _ _ (by decide)]; exact h.bblk) 8 _ (fun q => rfl) ?_ (fun q hq => ?_), by rw [upd_ne _ _ (by decide)]; exact h.box⟩
  · rw [if_neg (by decide)]
    simp only [rX, upd_self]
    rw [upd_ne _ _ (by decide), upd_ne _ _ (by decide), upd_ne _ _ (by decide)]
    rfl
  · cases q with
    | box => exact absurd rfl hq
    | prints => rw [if_pos rfl]; simp [rX, intsV]
    | thr =>
      rw [if_neg (by decide)]
      refine rows3_congr fun a b _ => ?_
      unfold thrC
      rw [upd_ne _ _ (by simp), upd_ne _ _ (by simp)]
      rfl
    | words => rw [if_neg (by decide)]; rfl
    | own => rw [if_neg (by decide)]; rfl
    | regs u => rw [if_neg (by simp)]; rfl
    | wait u => rw [if_neg (by simp)]; rfl
theorem waitV_snoc (l : List Wt) (x : Wt) : Go.Proofs.YtipdnfpomdcenabGreatDoor.waitV (l ++ [x]) = Go.Proofs.YtipdnfpomdcenabGreatDoor.waitV l ++ [.bool x.lk, .int .i64 x.wh, .int .i64 x.what] := by
  unfold Go.Proofs.YtipdnfpomdcenabGreatDoor.waitV
  rw [List.length_append, List.length_singleton, rows3_snoc]
  congr 1
  · refine rows3_congr fun t j ht => ?_
    congr 1
    simp [List.getD, List.getElem?_append_left ht]
  · simp [waitC, List.getD]
/-- The row of a thread's waiting is another one. -/
theorem DSt.newWait (h : DSt w B P sb v s) {tb t : Nat} (e : (v .thr).ownBlock = some tb) (ht : t < s.ths.length) {g c H : Nat} {l : List Wt} (hown : w1.ownsRow B 177 3 (.slice (some ⟨g, 0, none⟩) l.length c) l.length (Go.Proofs.YtipdnfpomdcenabGreatDoor.waitV l)) (hgrow : w.grownBy w1 (v (.wait t)).ownBlock) (hat : (v (.wait t)).ownBlock = some g ∨ g = H) (hH : w.heap.size ≤ H) :
    DSt (w1.setCell ⟨tb, t * 3 + 2, none⟩ (.slice (some ⟨g, 0, none⟩) l.length c)) B P sb (upd v (.wait t) (.slice (some ⟨g, 0, none⟩) l.length c)) (setTh s t { thOf s t with wait := l }) := by
  obtain ⟨x, hx⟩ : ∃ x : Value, x = .slice (some ⟨g, 0, none⟩) l.length c := ⟨_, rfl⟩
  have hnn : ∀ q, q ≠ .wait t → rN (setTh s t { thOf s t with wait := l }) q = rN s q := fun q hq => by
    cases q with
    | thr => exact ths_set _ _ _
    | regs u =>
      show (thOf (setTh s t _) u).regs.length = (thOf s u).regs.length
      rw [thOf_set ht]
      split
      · rename_i h; rw [h]
      · rfl
    | wait u =>
      show (thOf (setTh s t _) u).wait.length = (thOf s u).wait.length
      rw [thOf_set ht, if_neg (fun e => hq (by rw [e]))]
    | box => rfl
    | words => rfl
    | own => rfl
    | prints => rfl
  have h1 := h.fam.grow (r := .wait t) (n1 := rN (setTh s t { thOf s t with wait := l })) (xs1 := fun q => if q = .wait t then Go.Proofs.YtipdnfpomdcenabGreatDoor.waitV l else rX P v s q) hown hgrow hat hH (by show (thOf (setTh s t _) t).wait.length = _; rw [thOf_set ht, if_pos rfl]) hnn (if_pos rfl) (fun q hq => if_neg hq)
  rw [← hx] at h1 ⊢
  refine ⟨h1.put (r := .thr) (by rw [upd_ne _ _ (by simp)]; exact e) (t * 3 + 2) _ (fun q => rfl) ?_ (fun q hq => ?_), by rw [upd_ne _ _ (by simp)]; exact h.box⟩
  · rw [if_neg (by simp)]
    show rows3 (setTh s t _).ths.length (thrC _ (setTh s t _)) = (rows3 s.ths.length (thrC v s)).set (t * 3 + 2) _
    rw [ths_set]
    refine rows3_set (by omega) ?_ ?_
    · simp [thrC, upd_self]
    · intro a b hb3 hab
      simp only [thrC, thOf_set ht]
      rw [upd_ne _ _ (by simp)]
      by_cases h1 : a = t
      · subst h1
        rw [if_pos rfl]
        by_cases hb : b = 0
        · rw [if_pos hb, if_pos hb]
        · by_cases hb1 : b = 1
          · rw [if_neg hb, if_neg hb, if_pos hb1, if_pos hb1]
          · exact absurd ⟨rfl, by omega⟩ hab
      · rw [if_neg h1, upd_ne _ _ (by simpa using h1)]
  · cases q with
    | thr => exact absurd rfl hq
    | wait u =>
      show Go.Proofs.YtipdnfpomdcenabGreatDoor.waitV (thOf (setTh s t _) u).wait = _
      rw [thOf_set ht]
      by_cases hu : u = t
      · rw [if_pos hu, if_pos (by rw [hu])]
      · rw [if_neg hu, if_neg (by simpa using hu)]; rfl
    | box => 
      rw [if_neg (by simp)]
      simp only [rX]
      rw [upd_ne _ _ (by simp), upd_ne _ _ (by simp), upd_ne _ _ (by simp), upd_ne _ _ (by simp)]
      rfl
    | prints => rw [if_neg (by simp)]; rfl
    | words => rw [if_neg (by simp)]; rfl
    | own => rw [if_neg (by simp)]; rfl
    | regs u =>
      rw [if_neg (by simp)]
      show intsV (thOf (setTh s t _) u).regs = intsV (thOf s u).regs
      rw [thOf_set ht]
      split
      · rename_i h; rw [h]
      · rfl
end
end

end Go.Proofs.YtipdnfpomdcenabGreatDoor
