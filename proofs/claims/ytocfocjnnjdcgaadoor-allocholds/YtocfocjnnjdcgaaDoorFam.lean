/-
  Rows that a run owns, each under a name of its own, in blocks that are apart: what a store and an append make of them, and what stays as it was.
  Rows of numbers; 'append', as it is run on rows that the call made.
  Noughts behind numbers of one's own.
  A copy of a list of numbers, by the program.
-/
import Derived.Test.YtocfocjnnjdcgaaDoorBase
import Derived.WalkKit
import Derived.WalkSpells
import Derived.WalkLawsBesides
import Derived.Deep.AppendLies
import Derived.Deep.AppendSrc
import Derived.Lib.AppendZerosOnto
import Derived.Test.YtocfocjnnjdcgaaDoorOrder
import Derived.Lib.SmallJoins
namespace Go.Proofs.YtocfocjnnjdcgaaDoor
section
open Go.RowKit

abbrev nilV : Value := .slice none 0 0
/-- A pointer's block as a row of one. -/
abbrev boxV (b : Nat) : Value := .slice (some ⟨b, 0, none⟩) 1 1

theorem fam_put {w : World} {B : Nat} {e : TypeId} {size : Nat} {v : Value} {n : Nat} {xs : List Value} (h : w.ownsRow B e size v n xs) {g : Nat} (hg : v.ownBlock = some g) (i : Nat) (u : Value) : (w.setCell ⟨g, i, none⟩ u).ownsRow B e size v n (xs.set i u) := by
  refine ⟨by simp [h.1], ?_⟩
  rcases h.2 with ⟨h0, _⟩ | ⟨g', cap', cur, hv, hg', hh, h1, h2, h3, h4⟩
  · rw [h0] at hg; simp [Value.ownBlock] at hg
  · rw [hv] at hg
    have e : g' = g := by simpa [Value.ownBlock] using hg
    subst e
    refine Or.inr ⟨g', cap', cur.setIfInBounds i u, hv, hg', ?_, h1, h2, by simp [h3], ?_⟩
    · simp only [World.setCell, Array.getElem?_modify, if_true, hh, Option.map_some]
      rfl
    · rw [Array.toList_setIfInBounds, List.take_set, h4]
theorem fam_frozen {w : World} {B : Nat} {e : TypeId} {size : Nat} {v : Value} {n : Nat} {xs : List Value} (h : w.ownsRow B e size v n xs) {g : Nat} (hg : v.ownBlock = some g) (i : Nat) : w.frozen? ⟨g, i, none⟩ = false := by
  rcases h.2 with ⟨h0, _⟩ | ⟨g', cap', cur, hv, _, hh, _⟩
  · rw [h0] at hg; simp [Value.ownBlock] at hg
  · rw [hv] at hg
    have e : g' = g := by simpa [Value.ownBlock] using hg
    subst e
    simp [World.frozen?, hh]
theorem fam_cell {w : World} {B : Nat} {e : TypeId} {size : Nat} {v : Value} {n : Nat} {xs : List Value} (h : w.ownsRow B e size v n xs) {g : Nat} (hg : v.ownBlock = some g) {i : Nat} {u : Value} (hu : xs[i]? = some u) : w.cell? ⟨g, i, none⟩ = some u := by
  have := h.cells hg i u hu
  have hadd : (⟨g, 0, none⟩ : Addr).add i = ⟨g, i, none⟩ := by unfold Addr.add; split <;> simp_all
  rwa [hadd] at this
/-- What a value looks like that owns something, or nothing. -/
theorem fam_form {w : World} {B : Nat} {e : TypeId} {size : Nat} {v : Value} {n : Nat} {xs : List Value} (h : w.ownsRow B e size v n xs) : ∃ a cap, v = .slice a n cap := by
  rcases h.2 with ⟨h0, h1⟩ | ⟨g, cap, _, hv, _⟩
  · exact ⟨none, 0, by rw [h0, h1]⟩
  · exact ⟨_, cap, hv⟩
theorem fam_block {w : World} {B : Nat} {e : TypeId} {size : Nat} {v : Value} {n : Nat} {xs : List Value} (h : w.ownsRow B e size v n xs) (hn : 0 < n) : ∃ g cap, v = .slice (some ⟨g, 0, none⟩) n cap ∧ v.ownBlock = some g ∧ B ≤ g ∧ g < w.heap.size := by
  obtain ⟨g, cap, hv, h1, h2⟩ := h.form hn
  exact ⟨g, cap, hv, by rw [hv]; rfl, h1, h2⟩
theorem fam_box {w : World} {B b : Nat} {e : TypeId} {xs : List Value} (hB : B ≤ b) (h : w.heap[b]? = some (.cells xs.toArray e)) : w.ownsRow B e xs.length (boxV b) 1 xs := by
  refine ⟨by simp, Or.inr ⟨b, 1, xs.toArray, rfl, hB, h, Nat.le_refl _, by decide, by simp, by simp⟩⟩

def upd {ι : Type} [DecidableEq ι] {α : Type} (f : ι → α) (r : ι) (x : α) : ι → α := fun q => if q = r then x else f q
section
variable {ι : Type} [DecidableEq ι]
theorem upd_self {α : Type} (f : ι → α) (r : ι) (x : α) : upd f r x r = x := by simp [upd]
theorem upd_ne {α : Type} (f : ι → α) {r q : ι} (x : α) (h : q ≠ r) : upd f r x q = f q := by simp [upd, h]
end

/-- Rows under names, in blocks that are apart. -/
structure Fam {ι : Type} (w : World) (B : Nat) (ty : ι → TypeId) (sz : ι → Nat) (v : ι → Value) (n : ι → Nat) (xs : ι → List Value) : Prop where
  own : ∀ r, w.ownsRow B (ty r) (sz r) (v r) (n r) (xs r)
  apart : ∀ r q g, (v r).ownBlock = some g → (v q).ownBlock = some g → r = q

/-- From w to w1 nothing has turned but the rows v; the rows v1 lie where v lay, or in new memory. -/
structure Moved {ι : Type} (w w1 : World) (v v1 : ι → Value) : Prop where
  os : w1.os = w.os
  tape : w1.tape = w.tape
  output : w1.output = w.output
  size : w.heap.size ≤ w1.heap.size
  block : ∀ k, k < w.heap.size → (∀ r, (v r).ownBlock ≠ some k) → w1.heap[k]? = w.heap[k]?
  fresh : ∀ r g, (v1 r).ownBlock = some g → (∃ q, (v q).ownBlock = some g) ∨ w.heap.size ≤ g

section
variable {ι : Type} {w w1 w2 : World} {B : Nat} {ty : ι → TypeId} {sz : ι → Nat} {v v1 v2 : ι → Value} {n n1 : ι → Nat} {xs xs1 : ι → List Value}

theorem Moved.refl (w : World) (v : ι → Value) : Moved w w v v := ⟨rfl, rfl, rfl, Nat.le_refl _, fun _ _ _ => rfl, fun r _ h => Or.inl ⟨r, h⟩⟩
theorem Moved.trans (h : Moved w w1 v v1) (k : Moved w1 w2 v1 v2) : Moved w w2 v v2 where
  os := k.os.trans h.os
  tape := k.tape.trans h.tape
  output := k.output.trans h.output
  size := Nat.le_trans h.size k.size
  block i hi hr := by
    rw [k.block i (Nat.lt_of_lt_of_le hi h.size) (fun r e => ?_), h.block i hi hr]
    rcases h.fresh r i e with ⟨q, hq⟩ | h1
    · exact hr q hq
    · omega
  fresh r g e := by
    rcases k.fresh r g e with ⟨q, hq⟩ | h1
    · exact h.fresh q g hq
    · exact Or.inr (Nat.le_trans h.size h1)
theorem Moved.of_below (h : Below w.heap.size w w1) : Moved w w1 v v := ⟨h.os, h.tape, h.output, h.size, fun k hk _ => h.block k hk, fun r _ e => Or.inl ⟨r, e⟩⟩
theorem Moved.below (h : Moved w w1 v v1) (hB : B ≤ w.heap.size) (hv : ∀ r g, (v r).ownBlock = some g → B ≤ g) : Below B w w1 :=
  ⟨h.os, h.tape, h.output, h.size, fun k hk => h.block k (by omega) (fun r e => by have := hv r k e; omega)⟩
theorem Moved.drew (h : Moved w w1 v v1) : Moved w w1.drew v v1 := ⟨h.os, h.tape, h.output, h.size, h.block, h.fresh⟩
theorem Moved.cell (h : Moved w w1 v v1) {a : Addr} (ha : a.block < w.heap.size) (hr : ∀ r, (v r).ownBlock ≠ some a.block) : w1.cell? a = w.cell? a := World.cell?_of_block (h.block a.block ha hr)
/-- What lay outside still does. -/
theorem Moved.out (h : Moved w w1 v v1) {k : Nat} (hk : k < w.heap.size) (hr : ∀ r, (v r).ownBlock ≠ some k) : ∀ r, (v1 r).ownBlock ≠ some k := fun r e => by
  rcases h.fresh r k e with ⟨q, hq⟩ | h1
  · exact hr q hq
  · omega

theorem Fam.below (h : Fam w B ty sz v n xs) (hb : Below w.heap.size w w1) : Fam w1 B ty sz v n xs :=
  ⟨fun r => fam_keeps (h.own r) (fun g hg => hb.block g ((h.own r).lt g hg).2), h.apart⟩
theorem Fam.drew (h : Fam w B ty sz v n xs) : Fam w.drew B ty sz v n xs := h.below ((Below.refl _ _).drew)
theorem Fam.low (h : Fam w B ty sz v n xs) : ∀ r g, (v r).ownBlock = some g → B ≤ g := fun r g e => ((h.own r).lt g e).1
theorem Fam.lt (h : Fam w B ty sz v n xs) {r : ι} {g : Nat} (e : (v r).ownBlock = some g) : g < w.heap.size := ((h.own r).lt g e).2
theorem Fam.ne (h : Fam w B ty sz v n xs) {r q : ι} {g k : Nat} (e : (v r).ownBlock = some g) (f : (v q).ownBlock = some k) (hne : r ≠ q) : g ≠ k := fun x => hne (h.apart r q g e (by rw [x]; exact f))
theorem Fam.cell (h : Fam w B ty sz v n xs) {r : ι} {g i : Nat} {u : Value} (e : (v r).ownBlock = some g) (hu : (xs r)[i]? = some u) : w.cell? ⟨g, i, none⟩ = some u := fam_cell (h.own r) e hu
theorem Fam.frozen (h : Fam w B ty sz v n xs) {r : ι} {g : Nat} (e : (v r).ownBlock = some g) (i : Nat) : w.frozen? ⟨g, i, none⟩ = false := fam_frozen (h.own r) e i
/-- The same, said otherwise. -/
theorem Fam.same (h : Fam w B ty sz v n xs) (hn : ∀ r, n1 r = n r) (hx : ∀ r, xs1 r = xs r) : Fam w B ty sz v n1 xs1 := ⟨fun r => by rw [hn, hx]; exact h.own r, h.apart⟩

/-- A store into a row. -/
theorem Fam.put (h : Fam w B ty sz v n xs) {r : ι} {g : Nat} (e : (v r).ownBlock = some g) (i : Nat) (u : Value) (hn : ∀ q, n1 q = n q) (hr : xs1 r = (xs r).set i u) (hne : ∀ q, q ≠ r → xs1 q = xs q) : Fam (w.setCell ⟨g, i, none⟩ u) B ty sz v n1 xs1 := by
  refine ⟨fun q => ?_, h.apart⟩
  rw [hn q]
  by_cases hq : q = r
  · subst hq
    rw [hr]
    exact fam_put (h.own q) e i u
  · rw [hne q hq]
    exact fam_keeps (h.own q) (fun k hk => Below.heap_setCell _ _ _ _ (h.ne hk e hq))
theorem Moved.put (h : Moved w w1 v v1) {r : ι} {g : Nat} (e : (v1 r).ownBlock = some g) (i : Nat) (u : Value) : Moved w (w1.setCell ⟨g, i, none⟩ u) v v1 :=
  h.trans ⟨rfl, rfl, rfl, by simp [World.setCell], fun k _ hk => Below.heap_setCell _ _ _ _ (fun x => hk r (by rw [x]; exact e)), fun r _ e => Or.inl ⟨r, e⟩⟩
theorem Moved.alloc (h : Moved w w1 v v1) (o : Obj) : Moved w (w1.alloc o) v v1 := h.trans (Moved.of_below ((Below.refl _ _).alloc (Nat.le_refl _) _))

variable [DecidableEq ι]
/-- An append to a row: it lies where it lay, or in new memory. -/
theorem Fam.grow (h : Fam w B ty sz v n xs) {r : ι} {g m c H : Nat} {ys : List Value} (hown : w1.ownsRow B (ty r) (sz r) (.slice (some ⟨g, 0, none⟩) m c) m ys) (hgrow : w.grownBy w1 (v r).ownBlock) (hat : (v r).ownBlock = some g ∨ g = H) (hH : w.heap.size ≤ H)
    (hn : n1 r = m) (hnn : ∀ q, q ≠ r → n1 q = n q) (hr : xs1 r = ys) (hne : ∀ q, q ≠ r → xs1 q = xs q) : Fam w1 B ty sz (upd v r (.slice (some ⟨g, 0, none⟩) m c)) n1 xs1 := by
  have far : ∀ q k, q ≠ r → (v q).ownBlock = some k → k ≠ g := fun q k hq hk e => by
    rcases hat with h1 | h1
    · exact hq (h.apart q r k hk (by rw [e]; exact h1))
    · have := h.lt hk; omega
  refine ⟨fun q => ?_, ?_⟩
  · by_cases hq : q = r
    · subst hq
      rw [hr, hn, upd_self]
      exact hown
    · rw [hne q hq, hnn q hq, upd_ne _ _ hq]
      refine fam_keeps (h.own q) fun k hk => hgrow.block k (h.lt hk) (fun e => hq (h.apart q r k hk e.symm))
  · intro a b k ha hb
    by_cases h1 : a = r
    · by_cases h2 : b = r
      · rw [h1, h2]
      · subst h1
        rw [upd_self] at ha
        rw [upd_ne _ _ h2] at hb
        have e : g = k := by simpa [Value.ownBlock] using ha
        exact absurd e.symm (far b k h2 hb)
    · rw [upd_ne _ _ h1] at ha
      by_cases h2 : b = r
      · subst h2
        rw [upd_self] at hb
        have e : g = k := by simpa [Value.ownBlock] using hb
        exact absurd e.symm (far a k h1 ha)
      · rw [upd_ne _ _ h2] at hb
        exact h.apart a b k ha hb
theorem Moved.grow (h : Moved w w1 v v1) {r : ι} {g m c H : Nat} (hgrow : w1.grownBy w2 (v1 r).ownBlock) (hat : (v1 r).ownBlock = some g ∨ g = H) (hH : w1.heap.size ≤ H) : Moved w w2 v (upd v1 r (.slice (some ⟨g, 0, none⟩) m c)) := by
  refine h.trans ⟨hgrow.os, hgrow.tape, hgrow.output, hgrow.size, fun k hk hr => hgrow.block k hk (fun e => hr r e.symm), fun q k e => ?_⟩
  by_cases hq : q = r
  · subst hq
    rw [upd_self] at e
    have e' : g = k := by simpa [Value.ownBlock] using e
    subst e'
    rcases hat with h1 | h1
    · exact Or.inl ⟨q, h1⟩
    · exact Or.inr (by omega)
  · rw [upd_ne _ _ hq] at e
    exact Or.inl ⟨q, e⟩
/-- A row that was nothing lies in a new block. -/
theorem Fam.lay (h : Fam w B ty sz v n xs) {r : ι} {g : Nat} {x : Value} (hx : x.ownBlock = some g) (h0 : (v r).ownBlock = none) (hg : ∀ q, (v q).ownBlock ≠ some g) (hown : w.ownsRow B (ty r) (sz r) x (n1 r) (xs1 r)) (hnn : ∀ q, q ≠ r → n1 q = n q) (hne : ∀ q, q ≠ r → xs1 q = xs q) : Fam w B ty sz (upd v r x) n1 xs1 := by
  refine ⟨fun q => ?_, ?_⟩
  · by_cases hq : q = r
    · subst hq
      rw [upd_self]
      exact hown
    · rw [hne q hq, hnn q hq, upd_ne _ _ hq]
      exact h.own q
  · intro a b k ha hb
    by_cases h1 : a = r
    · by_cases h2 : b = r
      · rw [h1, h2]
      · subst h1
        rw [upd_self, hx] at ha
        rw [upd_ne _ _ h2] at hb
        exact absurd hb (by rw [← ha]; exact hg b)
    · rw [upd_ne _ _ h1] at ha
      by_cases h2 : b = r
      · subst h2
        rw [upd_self, hx] at hb
        exact absurd ha (by rw [← hb]; exact hg a)
      · rw [upd_ne _ _ h2] at hb
        exact h.apart a b k ha hb
end

/-! Rows of three cells each. -/
def rows3 (n : Nat) (f : Nat → Nat → Value) : List Value := (List.range (n * 3)).map fun i => f (i / 3) (i % 3)
theorem rows3_len (n : Nat) (f : Nat → Nat → Value) : (rows3 n f).length = n * 3 := by simp [rows3]
theorem rows3_at (n : Nat) (f : Nat → Nat → Value) (i : Nat) : (rows3 n f)[i]? = if i < n * 3 then some (f (i / 3) (i % 3)) else none := by
  unfold rows3
  rw [List.getElem?_map]
  by_cases h : i < n * 3
  · rw [if_pos h, List.getElem?_range h]; rfl
  · rw [if_neg h, List.getElem?_eq_none (by simp; omega)]; rfl
theorem rows3_get {n : Nat} {f : Nat → Nat → Value} {t j : Nat} (ht : t < n) (hj : j < 3) : (rows3 n f)[t * 3 + j]? = some (f t j) := by
  rw [rows3_at, if_pos (by omega), show (t * 3 + j) / 3 = t by omega, show (t * 3 + j) % 3 = j by omega]
theorem rows3_set {n : Nat} {f g : Nat → Nat → Value} {t j : Nat} {u : Value} (hj : j < 3) (hu : g t j = u) (hg : ∀ a b, b < 3 → ¬ (a = t ∧ b = j) → g a b = f a b) : rows3 n g = (rows3 n f).set (t * 3 + j) u := by
  refine List.ext_getElem? fun i => ?_
  rw [List.getElem?_set, rows3_at, rows3_at, rows3_len]
  by_cases h : t * 3 + j = i
  · rw [if_pos h]
    by_cases hi : i < n * 3
    · rw [if_pos hi, if_pos (by omega), show i / 3 = t by omega, show i % 3 = j by omega, hu]
    · rw [if_neg hi, if_neg (by omega)]
  · rw [if_neg h]
    by_cases hi : i < n * 3
    · rw [if_pos hi, if_pos hi, hg _ _ (by omega) (fun e => h (by omega))]
    · rw [if_neg hi, if_neg hi]
theorem rows3_snoc (n : Nat) (f : Nat → Nat → Value) : rows3 (n + 1) f = rows3 n f ++ [f n 0, f n 1, f n 2] := by
  unfold rows3
  rw [show (n + 1) * 3 = n * 3 + 1 + 1 + 1 by omega, List.range_succ, List.range_succ, List.range_succ]
  simp only [List.map_append, List.map_cons, List.map_nil, List.append_assoc, List.cons_append, List.nil_append]
  rw [show n * 3 / 3 = n by omega, show n * 3 % 3 = 0 by omega, show (n * 3 + 1) / 3 = n by omega, show (n * 3 + 1) % 3 = 1 by omega, show (n * 3 + 1 + 1) / 3 = n by omega, show (n * 3 + 1 + 1) % 3 = 2 by omega]
theorem rows3_congr {n : Nat} {f g : Nat → Nat → Value} (h : ∀ t j, t < n → g t j = f t j) : rows3 n g = rows3 n f := by
  refine List.ext_getElem? fun i => ?_
  rw [rows3_at, rows3_at]
  by_cases hi : i < n * 3
  · rw [if_pos hi, if_pos hi, h _ _ (by omega)]
  · rw [if_neg hi, if_neg hi]
end

section
open Go.RowKit

def intsV (l : List Int) : List Value := l.map (Value.int .i64)
theorem intsV_at {l : List Int} {i : Nat} (h : i < l.length) : (intsV l)[i]? = some (.int .i64 (l.getD i 0)) := by
  unfold intsV
  rw [List.getElem?_map, List.getElem?_eq_getElem h]
  simp [List.getD, List.getElem?_eq_getElem h]
theorem intsV_set (l : List Int) (i : Nat) (x : Int) : intsV (l.set i x) = (intsV l).set i (.int .i64 x) := by simp [intsV, List.map_set]
theorem intsV_len (l : List Int) : (intsV l).length = l.length := by simp [intsV]
theorem infoI : (Tryd.prog.info? 3).map (fun i => (i.zero, i.size, i.bytes)) = some (some (.int .i64 0), 1, 8) := by kernel_rfl
/-- A list of numbers that came in, as it is read. -/
def SIs (w : World) (a : Option Addr) (l : List Int) : Prop := ∀ i, i < l.length → ∃ b o, a = some ⟨b, o, none⟩ ∧ w.cell? ⟨b, o + i, none⟩ = some (.int .i64 (l.getD i 0))
theorem SIs.below {w w1 : World} {a : Option Addr} {l : List Int} (h : SIs w a l) (hb : Below w.heap.size w w1) : SIs w1 a l := fun i hi => by
  obtain ⟨b, o, e, h1⟩ := h i hi
  exact ⟨b, o, e, (hb.cell (lt_of_cell h1)).trans h1⟩
theorem intsV_one (l : List Int) : ∀ u ∈ intsV l, u.oneCell' = true := fun u hu => by
  simp only [intsV, List.mem_map] at hu
  obtain ⟨x, _, rfl⟩ := hu
  rfl
/-- 'append([]int{}, l...)'. -/
theorem app_src (W : World) (B : Nat) (hB : B ≤ W.heap.size) (sa : Option Addr) (l : List Int) (c : Nat) (hsrc : SIs W sa l) (hl : l.length * 8 ≤ 140737488355328) :
    ∃ g cap w3, (AppS #[23, 23] 23 #[.slice (some ⟨W.heap.size, 0, none⟩) 0 0, .slice sa l.length c]).run Tryd.prog (W.alloc (.cells #[] 3)) = .ok (.slice (some ⟨g, 0, none⟩) l.length cap) w3 ∧ w3.ownsRow B 3 1 (.slice (some ⟨g, 0, none⟩) l.length cap) l.length (intsV l) ∧ (W.alloc (.cells #[] 3)).grownBy w3 (some W.heap.size) ∧ W.heap.size ≤ g ∧ g < w3.heap.size := by
  obtain ⟨i, hi, hz0, hz1, hz2⟩ := info_is infoI
  have hown := World.ownsRow_made (base := B) (e := 3) (size := 1) W #[] 0 hB (by decide) rfl
  cases l with
  | nil =>
    refine ⟨W.heap.size, 0, W.alloc (.cells #[] 3), ?_, hown, ⟨rfl, rfl, rfl, Nat.le_refl _, fun _ _ _ => rfl⟩, Nat.le_refl _, by simp⟩
    have hs : Src Tryd.prog i.size 23 (.slice sa 0 c) 0 [] (W.alloc (.cells #[] 3)) := by
      cases sa with
      | none => exact Src.ofNil _ Tryd.underlying23 c
      | some a => exact Src.ofSlice _ Tryd.underlying23 a 0 c [] (by simp) (fun j u h => by simp at h) (fun u h => by cases h)
    have := run_append_room_src (P := Tryd.prog) (W.alloc (.cells #[] 3)) 23 23 23 3 i Tryd.underlying23 hi W.heap.size 0 0 0 (.slice sa 0 c) 0 [] hs (Nat.le_refl _) (fun j h => by simp at h) (fun j h => by simp at h)
    exact this
  | cons x r =>
    obtain ⟨b, o, rfl, _⟩ := hsrc 0 (by simp)
    have hnews : ∀ j u, (intsV (x :: r))[j]? = some u → (W.alloc (.cells #[] 3)).cell? ((⟨b, o, none⟩ : Addr).add j) = some u := fun j u hu => by
      have hj : j < (x :: r).length := by
        rcases Nat.lt_or_ge j (x :: r).length with h | h
        · exact h
        · rw [List.getElem?_eq_none (by rw [intsV_len]; exact h)] at hu; cases hu
      obtain ⟨b', o', e, h1⟩ := hsrc j hj
      simp only [Option.some.injEq, Addr.mk.injEq, and_true] at e
      obtain ⟨rfl, rfl⟩ := e
      have hadd : (⟨b, o, none⟩ : Addr).add j = ⟨b, o + j, none⟩ := by unfold Addr.add; split <;> simp_all
      rw [intsV_at hj] at hu
      rw [hadd, cell_up h1]
      exact hu
    obtain ⟨g, cap, w3, r1, r2, r3, r4, r5⟩ := run_append_lies (P := Tryd.prog) (W.alloc (.cells #[] 3)) 23 23 B 3 i _ 1 8 Tryd.underlying23 hi hz0 hz1 hz2 rfl (by omega) _ 0 [] hown ⟨b, o, none⟩ (x :: r).length c (intsV (x :: r)) (by rw [intsV_len]; omega) hnews (intsV_one _) (by simp) (by unfold maxLen; omega) (by omega) (by simp; omega) (W.heap.size + 1) (by simp)
    rw [Nat.zero_add] at r1 r2
    refine ⟨g, cap, w3, r1, r2, r3, ?_, r5⟩
    rcases r4 with r4 | r4
    · have : W.heap.size = g := by simpa [Value.ownBlock] using r4
      omega
    · omega
end

section
open Go.RowKit

theorem zeros_list (m : Nat) : (Builtin.zeroCells #[.int .i64 0] m).toList = List.replicate m (Value.int .i64 0) := by
  apply List.ext_getElem
  · simp [Builtin.zeroCells]
  · intro i h1 h2
    simp [Builtin.zeroCells, Nat.mod_one]
theorem run_room_zeros (w : World) (e : TypeId) (i : TypeInfo) (ht : Tryd.prog.underlying 23 = some (.slice e)) (hi : Tryd.prog.info? e = some i) (hz : i.zero = some (.int .i64 0)) (hs : i.size = 1) (hby : i.bytes = 8)
    (g sLen sCap : Nat) (cur : Array Value) (hg : w.heap[g]? = some (.cells cur e (0, 0))) (m : Nat) (hm : 0 < m) (hm2 : m ≤ 1000000) (hroom : sLen + m ≤ sCap) (hfit : sLen + m ≤ cur.size) :
    (Builtin.append_ #[23, 3] 23 #[.slice (some ⟨g, 0, none⟩) sLen sCap, .int .i64 (m : Nat)]).run Tryd.prog w =
      .ok (.slice (some ⟨g, 0, none⟩) (sLen + m) sCap) (w.setRow g (cur.toList.take sLen ++ List.replicate m (Value.int .i64 0) ++ cur.toList.drop (sLen + m)).toArray) := by
  have hst := run_storeCells_at Tryd.prog g sLen e (List.replicate m (Value.int .i64 0)) 0 cur w hg (by simpa using hfit) (fun v hv => by rw [(List.mem_replicate.1 hv).2]; rfl)
  simp only [Nat.add_zero, List.length_replicate] at hst
  have hk : m ≠ 0 := by omega
  have hw : IntKind.i64.wrap (m : Int) = m := by rw [IntKind.wrap_i64]; omega
  have hneg : ¬ ((m : Int) < 0) := by omega
  have h48 : ¬ (281474976710656 < (m : Int) * 8) := by omega
  have hzl : (Builtin.zeroCells (Value.int .i64 0).cells m).toList = List.replicate m (Value.int .i64 0) := zeros_list m
  simp [Builtin.append_, run_underlying ht, run_underlying Tryd.underlying3, sizeOf, typeInfo, zeroValue, hi, hz, hs, hby, asInt, asIntOf, hw, hneg, h48, hk, hroom, Addr.add_lit, hzl, hst]

theorem app_zeros {w : World} {B : Nat} {v : Value} {n : Nat} {xs : List Value} (hown : w.ownsRow B 3 1 v n xs) (hB : B ≤ w.heap.size) (m : Nat) (h63 : n + m ≤ 1000000) :
    ∃ v' w', (AppS #[23, 3] 23 #[v, .int .i64 (m : Nat)]).run Tryd.prog w = .ok v' w' ∧ w'.ownsRow B 3 1 v' (n + m) (xs ++ List.replicate m (Value.int .i64 0)) ∧ w.grownBy w' v.ownBlock ∧ (v'.ownBlock = v.ownBlock ∨ v'.ownBlock = some w.heap.size) := by
  obtain ⟨i, hi, hz, hs, hby⟩ := info_is infoI
  have ht : Tryd.prog.underlying 23 = some (.slice 3) := Tryd.underlying23
  have hlen : (xs ++ List.replicate m (Value.int .i64 0)).length = (n + m) * 1 := by rw [List.length_append, hown.1, List.length_replicate]; omega
  have hzl : (Builtin.zeroCells (Value.int .i64 0).cells m).toList = List.replicate m (Value.int .i64 0) := zeros_list m
  by_cases hm : m = 0
  · subst hm
    refine ⟨v, w, ?_, by simpa using hown, ⟨rfl, rfl, rfl, Nat.le_refl _, fun _ _ _ => rfl⟩, Or.inl rfl⟩
    have hw : IntKind.i64.wrap 0 = 0 := by decide
    rcases hown.2 with ⟨rfl, rfl⟩ | ⟨g, cap, cur, rfl, hbg, hg, hnc, hcm, hcs, htake⟩
    · show (Builtin.append_ #[23, 3] 23 #[.slice none 0 0, .int .i64 ((0 : Nat) : Int)]).run Tryd.prog w = _
      simp [Builtin.append_, run_underlying ht, run_underlying Tryd.underlying3, sizeOf, typeInfo, hi, hby, asInt, asIntOf, hw]
    · show (Builtin.append_ #[23, 3] 23 #[.slice (some ⟨g, 0, none⟩) n cap, .int .i64 ((0 : Nat) : Int)]).run Tryd.prog w = _
      simp [Builtin.append_, run_underlying ht, run_underlying Tryd.underlying3, sizeOf, typeInfo, hi, hby, asInt, asIntOf, hw, hnc, storeCells]
  have hm0 : 0 < m := by omega
  have grown : ∀ (old : Nat), old < n + m → ∀ (row : Option Nat),
      (w.drew.alloc (.cells (xs.toArray ++ Builtin.zeroCells (Value.int .i64 0).cells m ++ Builtin.zeroCells (Value.int .i64 0).cells (grownCap w (n + m) old 3 - (n + m))) 3)).ownsRow B 3 1
        (.slice (some ⟨w.heap.size, 0, none⟩) (n + m) (grownCap w (n + m) old 3)) (n + m) (xs ++ List.replicate m (Value.int .i64 0)) ∧
      w.grownBy (w.drew.alloc (.cells (xs.toArray ++ Builtin.zeroCells (Value.int .i64 0).cells m ++ Builtin.zeroCells (Value.int .i64 0).cells (grownCap w (n + m) old 3 - (n + m))) 3)) row := by
    intro old ho row
    have hge := grownCap_ge w (n + m) old 3
    have hcm : grownCap w (n + m) old 3 ≤ maxLen := grownCap_le_maxLen w (n + m) old 3 (by unfold maxLen; omega)
    refine ⟨⟨hlen, .inr ⟨w.heap.size, _, _, rfl, hB, heap_alloc_new w.drew _, hge, hcm, ?_, ?_⟩⟩, ⟨rfl, rfl, rfl, by simp, fun k hk _ => heap_alloc_old w.drew _ hk⟩⟩
    · have h1 := hown.1
      simp only [Array.size_append, List.size_toArray, size_zeroCells, Value.cells]
      simp
      omega
    · simp only [Array.toList_append, List.append_assoc, hzl]
      rw [← List.append_assoc, ← hlen]
      exact List.take_left
  rcases hown.2 with ⟨rfl, rfl⟩ | ⟨g, cap, cur, rfl, hbg, hg, hnc, hcm, hcs, htake⟩
  · have hx : xs = [] := List.eq_nil_of_length_eq_zero (by simpa using hown.1)
    subst hx
    have hr := Lib.run_append_nil_zeros (P := Tryd.prog) w 23 3 23 3 i (.int .i64 0) .i64 .i64 ht Tryd.underlying3 hi hz m hm0 (by omega) (by omega) (by rw [hby]; omega)
    have hgr := grown 0 (by omega) (Value.ownBlock (.slice none 0 0))
    simp only [Nat.zero_add, List.nil_append, Array.empty_append] at hgr ⊢
    exact ⟨_, _, hr, hgr.1, hgr.2, Or.inr rfl⟩
  · by_cases hroom : n + m ≤ cap
    · have hfit : n + m ≤ cur.size := by omega
      have hr := run_room_zeros w 3 i ht hi hz hs hby g n cap cur hg m hm0 (by omega) hroom hfit
      refine ⟨_, _, hr, ⟨hlen, .inr ⟨g, cap, _, rfl, hbg, setRow_heap w g cur _ _ _ hg, hroom, hcm, ?_, ?_⟩⟩, ⟨rfl, rfl, rfl, by simp, fun k _ hk => setRow_other w g k _ (fun e => hk (by simp [Value.ownBlock, e]))⟩, Or.inl rfl⟩
      · simp only [List.size_toArray, List.length_append, List.length_take, List.length_drop, Array.length_toList, List.length_replicate]
        omega
      · have h1 : cur.toList.take n = xs := by simpa using htake
        rw [h1, ← hlen]
        exact List.take_left
    · have holds : ∀ j u, xs[j]? = some u → w.cell? ((⟨g, 0, none⟩ : Addr).add j) = some u := hown.cells (g := g) rfl
      have hf := run_firstCells_some (P := Tryd.prog) w.drew i.size n ⟨g, 0, none⟩ n cap xs (by rw [hs]; exact hown.1) (by simpa using holds)
      have hr := Lib.run_append_grow_zeros (P := Tryd.prog) w 23 3 23 3 i (.int .i64 0) .i64 .i64 ht Tryd.underlying3 hi hz (some ⟨g, 0, none⟩) n cap xs hf m hm0 (by omega) (by omega) (by omega) (by rw [hby]; omega) (by rw [hby]; exact growslice_fits (by omega) (by omega))
      have hgr := grown cap (by omega) (Value.ownBlock (.slice (some ⟨g, 0, none⟩) n cap))
      exact ⟨_, _, hr, hgr.1, hgr.2, Or.inr rfl⟩
end

section
open Go.RowKit

attribute [local go_sem ↓] appS_eq
set_option maxRecDepth 100000 in
set_option maxHeartbeats 1600000 in
theorem clone_some (w : World) (sa : Addr) (l : List Int) (c : Nat) (h : SIs w (some sa) l) (hl : l.length * 8 ≤ 140737488355328) :
    Calls Tryd.prog 58 #[.slice (some sa) l.length c] w fun e w' => ∃ g cap, e = .returned (.slice (some ⟨g, 0, none⟩) l.length cap) ∧ w.heap.size ≤ g ∧ w'.ownsRow w.heap.size 3 1 (.slice (some ⟨g, 0, none⟩) l.length cap) l.length (intsV l) ∧ Below w.heap.size w w' := by
  obtain ⟨g, cap, w3, r1, r2, r3, r4, _⟩ := app_src w w.heap.size (Nat.le_refl _) (some sa) l c h hl
  have HF : Hid (Below w.heap.size w w3) := ((Below.refl _ _).alloc (Nat.le_refl _) _).grown r3 (by simp) (fun k hk => by simp at hk; omega)
  have hne := fun W => Lib.run_eql_slice_nil (P := Tryd.prog) W 23 3 (some sa) l.length c 0 0 Tryd.underlying23
  obtain ⟨m, hm⟩ : ∃ m, l.length = m := ⟨_, rfl⟩
  rw [hm] at r1 r2 hne ⊢
  clear h hl r3 hm
  go_enter Tryd.func58, Tryd.ntmps58
  go_wp2
  go_ret
  exact ⟨g, cap, rfl, r4, r2, HF.out⟩
set_option maxRecDepth 100000 in
set_option maxHeartbeats 1600000 in
theorem clone_nil (w : World) : Calls Tryd.prog 58 #[nilV] w fun e w' => e = .returned nilV ∧ w = w' := by
  have hne := fun W => Lib.run_eql_slice_nil (P := Tryd.prog) W 23 3 none 0 0 0 0 Tryd.underlying23
  go_enter Tryd.func58, Tryd.ntmps58
  go_wp2
  go_ret
  exact ⟨rfl, rfl⟩
/-- A copy of a list. -/
theorem clone_any (w : World) (sa : Option Addr) (l : List Int) (c : Nat) (h : SIs w sa l) (hnil : sa = none → l = [] ∧ c = 0) (hl : l.length * 8 ≤ 140737488355328) :
    Calls Tryd.prog 58 #[.slice sa l.length c] w fun e w' => ∃ a cap, e = .returned (.slice a l.length cap) ∧ w'.ownsRow w.heap.size 3 1 (.slice a l.length cap) l.length (intsV l) ∧ Below w.heap.size w w' := by
  cases sa with
  | none =>
    obtain ⟨rfl, rfl⟩ := hnil rfl
    refine (clone_nil w).mono fun e w' h => ⟨none, 0, h.1, World.ownsRow_nil _ _ _ _, ?_⟩
    rw [← h.2]; exact Below.refl _ _
  | some a => exact (clone_some w a l c h hl).mono fun e w' ⟨g, cap, h1, _, h3, h4⟩ => ⟨_, cap, h1, h3, h4⟩
end

end Go.Proofs.YtocfocjnnjdcgaaDoor
