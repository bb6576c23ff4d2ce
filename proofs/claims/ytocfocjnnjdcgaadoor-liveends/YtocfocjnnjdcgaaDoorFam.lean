/-
  Rows that a run owns, each under a name of its own, in blocks that are apart: what a store and an append make of them, and what stays as it was.
-/
import Derived.Test.YtocfocjnnjdcgaaDoorPlain
import Derived.WalkKit
import Derived.WalkSpells
import Derived.WalkLawsBesides
import Derived.Deep.AppendLies
namespace Go.Proofs.YtocfocjnnjdcgaaDoor
open Go.RowKit

abbrev nilV : Value := .slice none 0 0
/-- A pointer's block as a row of one. -/
abbrev boxV (b : Nat) : Value := .slice (some ⟨b, 0, none⟩) 1 1

theorem fam_put {w : World} {B : Nat} {e : TypeId} {size : Nat} {v : Value} {n : Nat} {xs : List Value} (h : w.ownsRow B e size v n xs) {g : Nat} (hg : v.ownBlock = some g) (i : Nat) (u : Value) : (w.setCell ⟨g, i, none⟩ u).ownsRow B e size v n (xs.set i u) := by
  refine ⟨by simp [h.1], ?_⟩
  rcases h.2 with ⟨h0, _⟩ | ⟨g', cap', cur, hv, hg', hh, h1, h2, h3, h4⟩
  · rw [h0] at hg; simp [Value.ownBlock] at hg
  · rw [hv] at hg
    have e : g' = g := by simpa [Value.ownBlock] using hg
    subst e
    refine Or.inr ⟨g', cap', cur.setIfInBounds i u, hv, hg', ?_, h1, h2, by simp [h3], ?_⟩
    · simp only [World.setCell, Array.getElem?_modify, if_true, hh, Option.map_some]
      rfl
    · rw [Array.toList_setIfInBounds, List.take_set, h4]
theorem fam_frozen {w : World} {B : Nat} {e : TypeId} {size : Nat} {v : Value} {n : Nat} {xs : List Value} (h : w.ownsRow B e size v n xs) {g : Nat} (hg : v.ownBlock = some g) (i : Nat) : w.frozen? ⟨g, i, none⟩ = false := by
  rcases h.2 with ⟨h0, _⟩ | ⟨g', cap', cur, hv, _, hh, _⟩
  · rw [h0] at hg; simp [Value.ownBlock] at hg
  · rw [hv] at hg
    have e : g' = g := by simpa [Value.ownBlock] using hg
    subst e
    simp [World.frozen?, hh]
theorem fam_cell {w : World} {B : Nat} {e : TypeId} {size : Nat} {v : Value} {n : Nat} {xs : List Value} (h : w.ownsRow B e size v n xs) {g : Nat} (hg : v.ownBlock = some g) {i : Nat} {u : Value} (hu : xs[i]? = some u) : w.cell? ⟨g, i, none⟩ = some u := by
  have := h.cells hg i u hu
  have hadd : (⟨g, 0, none⟩ : Addr).add i = ⟨g, i, none⟩ := by unfold Addr.add; split <;> simp_all
  rwa [hadd] at this
/-- What a value looks like that owns something, or nothing. -/
theorem fam_form {w : World} {B : Nat} {e : TypeId} {size : Nat} {v : Value} {n : Nat} {xs : List Value} (h : w.ownsRow B e size v n xs) : ∃ a cap, v = .slice a n cap := by
  rcases h.2 with ⟨h0, h1⟩ | ⟨g, cap, _, hv, _⟩
  · exact ⟨none, 0, by rw [h0, h1]⟩
  · exact ⟨_, cap, hv⟩
theorem fam_block {w : World} {B : Nat} {e : TypeId} {size : Nat} {v : Value} {n : Nat} {xs : List Value} (h : w.ownsRow B e size v n xs) (hn : 0 < n) : ∃ g cap, v = .slice (some ⟨g, 0, none⟩) n cap ∧ v.ownBlock = some g ∧ B ≤ g ∧ g < w.heap.size := by
  obtain ⟨g, cap, hv, h1, h2⟩ := h.form hn
  exact ⟨g, cap, hv, by rw [hv]; rfl, h1, h2⟩
theorem fam_box {w : World} {B b : Nat} {e : TypeId} {xs : List Value} (hB : B ≤ b) (h : w.heap[b]? = some (.cells xs.toArray e)) : w.ownsRow B e xs.length (boxV b) 1 xs := by
  refine ⟨by simp, Or.inr ⟨b, 1, xs.toArray, rfl, hB, h, Nat.le_refl _, by decide, by simp, by simp⟩⟩

def upd {ι : Type} [DecidableEq ι] {α : Type} (f : ι → α) (r : ι) (x : α) : ι → α := fun q => if q = r then x else f q
section
variable {ι : Type} [DecidableEq ι]
theorem upd_self {α : Type} (f : ι → α) (r : ι) (x : α) : upd f r x r = x := by simp [upd]
theorem upd_ne {α : Type} (f : ι → α) {r q : ι} (x : α) (h : q ≠ r) : upd f r x q = f q := by simp [upd, h]
end

/-- Rows under names, in blocks that are apart. -/
structure Fam {ι : Type} (w : World) (B : Nat) (ty : ι → TypeId) (sz : ι → Nat) (v : ι → Value) (n : ι → Nat) (xs : ι → List Value) : Prop where
  own : ∀ r, w.ownsRow B (ty r) (sz r) (v r) (n r) (xs r)
  apart : ∀ r q g, (v r).ownBlock = some g → (v q).ownBlock = some g → r = q

/-- From w to w1 nothing has turned but the rows v; the rows v1 lie where v lay, or in new memory. -/
structure Moved {ι : Type} (w w1 : World) (v v1 : ι → Value) : Prop where
  os : w1.os = w.os
  tape : w1.tape = w.tape
  output : w1.output = w.output
  size : w.heap.size ≤ w1.heap.size
  block : ∀ k, k < w.heap.size → (∀ r, (v r).ownBlock ≠ some k) → w1.heap[k]? = w.heap[k]?
  fresh : ∀ r g, (v1 r).ownBlock = some g → (∃ q, (v q).ownBlock = some g) ∨ w.heap.size ≤ g

section
variable {ι : Type} {w w1 w2 : World} {B : Nat} {ty : ι → TypeId} {sz : ι → Nat} {v v1 v2 : ι → Value} {n n1 : ι → Nat} {xs xs1 : ι → List Value}

theorem Moved.refl (w : World) (v : ι → Value) : Moved w w v v := ⟨rfl, rfl, rfl, Nat.le_refl _, fun _ _ _ => rfl, fun r _ h => Or.inl ⟨r, h⟩⟩
theorem Moved.trans (h : Moved w w1 v v1) (k : Moved w1 w2 v1 v2) : Moved w w2 v v2 where
  os := k.os.trans h.os
  tape := k.tape.trans h.tape
  output := k.output.trans h.output
  size := Nat.le_trans h.size k.size
  block i hi hr := by
    rw [k.block i (Nat.lt_of_lt_of_le hi h.size) (fun r e => ?_), h.block i hi hr]
    rcases h.fresh r i e with ⟨q, hq⟩ | h1
    · exact hr q hq
    · omega
  fresh r g e := by
    rcases k.fresh r g e with ⟨q, hq⟩ | h1
    · exact h.fresh q g hq
    · exact Or.inr (Nat.le_trans h.size h1)
theorem Moved.of_below (h : Below w.heap.size w w1) : Moved w w1 v v := ⟨h.os, h.tape, h.output, h.size, fun k hk _ => h.block k hk, fun r _ e => Or.inl ⟨r, e⟩⟩
theorem Moved.below (h : Moved w w1 v v1) (hB : B ≤ w.heap.size) (hv : ∀ r g, (v r).ownBlock = some g → B ≤ g) : Below B w w1 :=
  ⟨h.os, h.tape, h.output, h.size, fun k hk => h.block k (by omega) (fun r e => by have := hv r k e; omega)⟩
theorem Moved.drew (h : Moved w w1 v v1) : Moved w w1.drew v v1 := ⟨h.os, h.tape, h.output, h.size, h.block, h.fresh⟩
theorem Moved.cell (h : Moved w w1 v v1) {a : Addr} (ha : a.block < w.heap.size) (hr : ∀ r, (v r).ownBlock ≠ some a.block) : w1.cell? a = w.cell? a := World.cell?_of_block (h.block a.block ha hr)
theorem Moved.frozen (h : Moved w w1 v v1) {a : Addr} (ha : a.block < w.heap.size) (hr : ∀ r, (v r).ownBlock ≠ some a.block) : w1.frozen? a = w.frozen? a := World.frozen?_of_block (h.block a.block ha hr)
/-- What lay outside still does. -/
theorem Moved.out (h : Moved w w1 v v1) {k : Nat} (hk : k < w.heap.size) (hr : ∀ r, (v r).ownBlock ≠ some k) : ∀ r, (v1 r).ownBlock ≠ some k := fun r e => by
  rcases h.fresh r k e with ⟨q, hq⟩ | h1
  · exact hr q hq
  · omega

theorem Fam.below (h : Fam w B ty sz v n xs) (hb : Below w.heap.size w w1) : Fam w1 B ty sz v n xs :=
  ⟨fun r => fam_keeps (h.own r) (fun g hg => hb.block g ((h.own r).lt g hg).2), h.apart⟩
theorem Fam.drew (h : Fam w B ty sz v n xs) : Fam w.drew B ty sz v n xs := h.below ((Below.refl _ _).drew)
theorem Fam.low (h : Fam w B ty sz v n xs) : ∀ r g, (v r).ownBlock = some g → B ≤ g := fun r g e => ((h.own r).lt g e).1
theorem Fam.lt (h : Fam w B ty sz v n xs) {r : ι} {g : Nat} (e : (v r).ownBlock = some g) : g < w.heap.size := ((h.own r).lt g e).2
theorem Fam.ne (h : Fam w B ty sz v n xs) {r q : ι} {g k : Nat} (e : (v r).ownBlock = some g) (f : (v q).ownBlock = some k) (hne : r ≠ q) : g ≠ k := fun x => hne (h.apart r q g e (by rw [x]; exact f))
theorem Fam.cell (h : Fam w B ty sz v n xs) {r : ι} {g i : Nat} {u : Value} (e : (v r).ownBlock = some g) (hu : (xs r)[i]? = some u) : w.cell? ⟨g, i, none⟩ = some u := fam_cell (h.own r) e hu
theorem Fam.frozen (h : Fam w B ty sz v n xs) {r : ι} {g : Nat} (e : (v r).ownBlock = some g) (i : Nat) : w.frozen? ⟨g, i, none⟩ = false := fam_frozen (h.own r) e i
/-- The same, said otherwise. -/
theorem Fam.same (h : Fam w B ty sz v n xs) (hn : ∀ r, n1 r = n r) (hx : ∀ r, xs1 r = xs r) : Fam w B ty sz v n1 xs1 := ⟨fun r => by rw [hn, hx]; exact h.own r, h.apart⟩

/-- A store into a row. -/
theorem Fam.put (h : Fam w B ty sz v n xs) {r : ι} {g : Nat} (e : (v r).ownBlock = some g) (i : Nat) (u : Value) (hn : ∀ q, n1 q = n q) (hr : xs1 r = (xs r).set i u) (hne : ∀ q, q ≠ r → xs1 q = xs q) : Fam (w.setCell ⟨g, i, none⟩ u) B ty sz v n1 xs1 := by
  refine ⟨fun q => ?_, h.apart⟩
  rw [hn q]
  by_cases hq : q = r
  · subst hq
    rw [hr]
    exact fam_put (h.own q) e i u
  · rw [hne q hq]
    exact fam_keeps (h.own q) (fun k hk => Below.heap_setCell _ _ _ _ (h.ne hk e hq))
theorem Moved.put (h : Moved w w1 v v1) {r : ι} {g : Nat} (e : (v1 r).ownBlock = some g) (i : Nat) (u : Value) : Moved w (w1.setCell ⟨g, i, none⟩ u) v v1 :=
  h.trans ⟨rfl, rfl, rfl, by simp [World.setCell], fun k _ hk => Below.heap_setCell _ _ _ _ (fun x => hk r (by rw [x]; exact e)), fun r _ e => Or.inl ⟨r, e⟩⟩
theorem Moved.alloc (h : Moved w w1 v v1) (o : Obj) : Moved w (w1.alloc o) v v1 := h.trans (Moved.of_below ((Below.refl _ _).alloc (Nat.le_refl _) _))

variable [DecidableEq ι]
/-- An append to a row: it lies where it lay, or in new memory. -/
theorem Fam.grow (h : Fam w B ty sz v n xs) {r : ι} {g m c H : Nat} {ys : List Value} (hown : w1.ownsRow B (ty r) (sz r) (.slice (some ⟨g, 0, none⟩) m c) m ys) (hgrow : w.grownBy w1 (v r).ownBlock) (hat : (v r).ownBlock = some g ∨ g = H) (hH : w.heap.size ≤ H)
    (hn : n1 r = m) (hnn : ∀ q, q ≠ r → n1 q = n q) (hr : xs1 r = ys) (hne : ∀ q, q ≠ r → xs1 q = xs q) : Fam w1 B ty sz (upd v r (.slice (some ⟨g, 0, none⟩) m c)) n1 xs1 := by
  have far : ∀ q k, q ≠ r → (v q).ownBlock = some k → k ≠ g := fun q k hq hk e => by
    rcases hat with h1 | h1
    · exact hq (h.apart q r k hk (by rw [e]; exact h1))
    · have := h.lt hk; omega
  refine ⟨fun q => ?_, ?_⟩
  · by_cases hq : q = r
    · subst hq
      rw [hr, hn, upd_self]
      exact hown
    · rw [hne q hq, hnn q hq, upd_ne _ _ hq]
      refine fam_keeps (h.own q) fun k hk => hgrow.block k (h.lt hk) (fun e => hq (h.apart q r k hk e.symm))
  · intro a b k ha hb
    by_cases h1 : a = r
    · by_cases h2 : b = r
      · rw [h1, h2]
      · subst h1
        rw [upd_self] at ha
        rw [upd_ne _ _ h2] at hb
        have e : g = k := by simpa [Value.ownBlock] using ha
        exact absurd e.symm (far b k h2 hb)
    · rw [upd_ne _ _ h1] at ha
      by_cases h2 : b = r
      · subst h2
        rw [upd_self] at hb
        have e : g = k := by simpa [Value.ownBlock] using hb
        exact absurd e.symm (far a k h1 ha)
      · rw [upd_ne _ _ h2] at hb
        exact h.apart a b k ha hb
theorem Moved.grow (h : Moved w w1 v v1) {r : ι} {g m c H : Nat} (hgrow : w1.grownBy w2 (v1 r).ownBlock) (hat : (v1 r).ownBlock = some g ∨ g = H) (hH : w1.heap.size ≤ H) : Moved w w2 v (upd v1 r (.slice (some ⟨g, 0, none⟩) m c)) := by
  refine h.trans ⟨hgrow.os, hgrow.tape, hgrow.output, hgrow.size, fun k hk hr => hgrow.block k hk (fun e => hr r e.symm), fun q k e => ?_⟩
  by_cases hq : q = r
  · subst hq
    rw [upd_self] at e
    have e' : g = k := by simpa [Value.ownBlock] using e
    subst e'
    rcases hat with h1 | h1
    · exact Or.inl ⟨q, h1⟩
    · exact Or.inr (by omega)
  · rw [upd_ne _ _ hq] at e
    exact Or.inl ⟨q, e⟩
/-- A row that was nothing lies in a new block. -/
theorem Fam.lay (h : Fam w B ty sz v n xs) {r : ι} {g : Nat} {x : Value} (hx : x.ownBlock = some g) (h0 : (v r).ownBlock = none) (hg : ∀ q, (v q).ownBlock ≠ some g) (hown : w.ownsRow B (ty r) (sz r) x (n1 r) (xs1 r)) (hnn : ∀ q, q ≠ r → n1 q = n q) (hne : ∀ q, q ≠ r → xs1 q = xs q) : Fam w B ty sz (upd v r x) n1 xs1 := by
  refine ⟨fun q => ?_, ?_⟩
  · by_cases hq : q = r
    · subst hq
      rw [upd_self]
      exact hown
    · rw [hne q hq, hnn q hq, upd_ne _ _ hq]
      exact h.own q
  · intro a b k ha hb
    by_cases h1 : a = r
    · by_cases h2 : b = r
      · rw [h1, h2]
      · subst h1
        rw [upd_self, hx] at ha
        rw [upd_ne _ _ h2] at hb
        exact absurd hb (by rw [← ha]; exact hg b)
    · rw [upd_ne _ _ h1] at ha
      by_cases h2 : b = r
      · subst h2
        rw [upd_self, hx] at hb
        exact absurd ha (by rw [← hb]; exact hg a)
      · rw [upd_ne _ _ h2] at hb
        exact h.apart a b k ha hb
end

/-! Rows of three cells each. -/
def rows3 (n : Nat) (f : Nat → Nat → Value) : List Value := (List.range (n * 3)).map fun i => f (i / 3) (i % 3)
theorem rows3_len (n : Nat) (f : Nat → Nat → Value) : (rows3 n f).length = n * 3 := by simp [rows3]
theorem rows3_at (n : Nat) (f : Nat → Nat → Value) (i : Nat) : (rows3 n f)[i]? = if i < n * 3 then some (f (i / 3) (i % 3)) else none := by
  unfold rows3
  rw [List.getElem?_map]
  by_cases h : i < n * 3
  · rw [if_pos h, List.getElem?_range h]; rfl
  · rw [if_neg h, List.getElem?_eq_none (by simp; omega)]; rfl
theorem rows3_get {n : Nat} {f : Nat → Nat → Value} {t j : Nat} (ht : t < n) (hj : j < 3) : (rows3 n f)[t * 3 + j]? = some (f t j) := by
  rw [rows3_at, if_pos (by omega), show (t * 3 + j) / 3 = t by omega, show (t * 3 + j) % 3 = j by omega]
theorem rows3_set {n : Nat} {f g : Nat → Nat → Value} {t j : Nat} {u : Value} (hj : j < 3) (hu : g t j = u) (hg : ∀ a b, b < 3 → ¬ (a = t ∧ b = j) → g a b = f a b) : rows3 n g = (rows3 n f).set (t * 3 + j) u := by
  refine List.ext_getElem? fun i => ?_
  rw [List.getElem?_set, rows3_at, rows3_at, rows3_len]
  by_cases h : t * 3 + j = i
  · rw [if_pos h]
    by_cases hi : i < n * 3
    · rw [if_pos hi, if_pos (by omega), show i / 3 = t by omega, show i % 3 = j by omega, hu]
    · rw [if_neg hi, if_neg (by omega)]
  · rw [if_neg h]
    by_cases hi : i < n * 3
    · rw [if_pos hi, if_pos hi, hg _ _ (by omega) (fun e => h (by omega))]
    · rw [if_neg hi, if_neg hi]
theorem rows3_snoc (n : Nat) (f : Nat → Nat → Value) : rows3 (n + 1) f = rows3 n f ++ [f n 0, f n 1, f n 2] := by
  unfold rows3
  rw [show (n + 1) * 3 = n * 3 + 1 + 1 + 1 by omega, List.range_succ, List.range_succ, List.range_succ]
  simp only [List.map_append, List.map_cons, List.map_nil, List.append_assoc, List.cons_append, List.nil_append]
  rw [show n * 3 / 3 = n by omega, show n * 3 % 3 = 0 by omega, show (n * 3 + 1) / 3 = n by omega, show (n * 3 + 1) % 3 = 1 by omega, show (n * 3 + 1 + 1) / 3 = n by omega, show (n * 3 + 1 + 1) % 3 = 2 by omega]
theorem rows3_congr {n : Nat} {f g : Nat → Nat → Value} (h : ∀ t j, t < n → g t j = f t j) : rows3 n g = rows3 n f := by
  refine List.ext_getElem? fun i => ?_
  rw [rows3_at, rows3_at]
  by_cases hi : i < n * 3
  · rw [if_pos hi, if_pos hi, h _ _ (by omega)]
  · rw [if_neg hi, if_neg hi]

end Go.Proofs.YtocfocjnnjdcgaaDoor
