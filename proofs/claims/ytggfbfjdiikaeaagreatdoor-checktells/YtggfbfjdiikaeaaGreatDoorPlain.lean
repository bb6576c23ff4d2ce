/-
  What chapter 1 says of a program's orders, as plain functions of numbers: which kinds of numbers an order has, whether a number may be, what is the first thing that is wrong.
  Rows that a run owns, each under a name of its own, in blocks that are apart: what a store and an append make of them, and what stays as it was.
  Tokens in memory, and lists of them that are made.
  The document's parser in memory: where it stands, what stands next.
  What the document's Ints does with two lists of the same numbers.
  Nodes in memory, as they are read; a program that may be.
-/
import Derived.Test.YtggfbfjdiikaeaaGreatDoorBase
import Derived.WalkKit
import Derived.WalkSpells
import Derived.WalkLawsBesides
import Derived.Deep.AppendLies
import Derived.Test.YtggfbfjdiikaeaaGreatDoorSynX
import Derived.BigRegion
import Derived.Test.YtggfbfjdiikaeaaGreatDoorSynN
namespace Go.Proofs.YtggfbfjdiikaeaaGreatDoor
section
/-- An order's three kinds of numbers: 0 nothing, 1 a register, 2 a word, 3 a lock, 4 a place, 5 any number. -/
def kd (op : Int) : Option (Int × Int × Int) :=
  if op = 1 then some (1, 5, 0) else if op = 2 then some (1, 1, 0) else if op = 3 then some (1, 1, 1) else if op = 4 then some (1, 1, 1)
  else if op = 5 then some (1, 1, 1) else if op = 6 then some (1, 1, 1) else if op = 7 then some (1, 1, 1) else if op = 8 then some (1, 2, 0)
  else if op = 9 then some (2, 1, 0) else if op = 10 then some (1, 1, 0) else if op = 11 then some (1, 1, 0) else if op = 12 then some (0, 0, 0)
  else if op = 13 then some (2, 1, 1) else if op = 14 then some (4, 0, 0) else if op = 15 then some (1, 4, 0) else if op = 16 then some (1, 0, 0)
  else if op = 17 then some (3, 0, 0) else if op = 18 then some (3, 0, 0) else none
end

section
open Go.RowKit

abbrev nilV : Value := .slice none 0 0
/-- A pointer's block as a row of one. -/
abbrev boxV (b : Nat) : Value := .slice (some ⟨b, 0, none⟩) 1 1

theorem fam_put {w : World} {B : Nat} {e : TypeId} {size : Nat} {v : Value} {n : Nat} {xs : List Value} (h : w.ownsRow B e size v n xs) {g : Nat} (hg : v.ownBlock = some g) (i : Nat) (u : Value) : (w.setCell ⟨g, i, none⟩ u).ownsRow B e size v n (xs.set i u) := by
  refine ⟨by simp [h.1], ?_⟩
  rcases h.2 with ⟨h0, _⟩ | ⟨g', cap', cur, hv, hg', hh, h1, h2, h3, h4⟩
  · rw [h0] at hg; simp [Value.ownBlock] at hg
  · rw [hv] at hg
    have e : g' = g := by simpa [Value.ownBlock] using hg
    subst e
    refine Or.inr ⟨g', cap', cur.setIfInBounds i u, hv, hg', ?_, h1, h2, by simp [h3], ?_⟩
    · simp only [World.setCell, Array.getElem?_modify, if_true, hh, Option.map_some]
      rfl
    · rw [Array.toList_setIfInBounds, List.take_set, h4]
theorem fam_frozen {w : World} {B : Nat} {e : TypeId} {size : Nat} {v : Value} {n : Nat} {xs : List Value} (h : w.ownsRow B e size v n xs) {g : Nat} (hg : v.ownBlock = some g) (i : Nat) : w.frozen? ⟨g, i, none⟩ = false := by
  rcases h.2 with ⟨h0, _⟩ | ⟨g', cap', cur, hv, _, hh, _⟩
  · rw [h0] at hg; simp [Value.ownBlock] at hg
  · rw [hv] at hg
    have e : g' = g := by simpa [Value.ownBlock] using hg
    subst e
    simp [World.frozen?, hh]
theorem fam_cell {w : World} {B : Nat} {e : TypeId} {size : Nat} {v : Value} {n : Nat} {xs : List Value} (h : w.ownsRow B e size v n xs) {g : Nat} (hg : v.ownBlock = some g) {i : Nat} {u : Value} (hu : xs[i]? = some u) : w.cell? ⟨g, i, none⟩ = some u := by
  have := h.cells hg i u hu
  have hadd : (⟨g, 0, none⟩ : Addr).add i = ⟨g, i, none⟩ := by unfold Addr.add; split <;> simp_all
  rwa [hadd] at this
/-- What a value looks like that owns something, or nothing. -/
theorem fam_form {w : World} {B : Nat} {e : TypeId} {size : Nat} {v : Value} {n : Nat} {xs : List Value} (h : w.ownsRow B e size v n xs) : ∃ a cap, v = .slice a n cap := by
  rcases h.2 with ⟨h0, h1⟩ | ⟨g, cap, _, hv, _⟩
  · exact ⟨none, 0, by rw [h0, h1]⟩
  · exact ⟨_, cap, hv⟩
theorem fam_block {w : World} {B : Nat} {e : TypeId} {size : Nat} {v : Value} {n : Nat} {xs : List Value} (h : w.ownsRow B e size v n xs) (hn : 0 < n) : ∃ g cap, v = .slice (some ⟨g, 0, none⟩) n cap ∧ v.ownBlock = some g ∧ B ≤ g ∧ g < w.heap.size := by
  obtain ⟨g, cap, hv, h1, h2⟩ := h.form hn
  exact ⟨g, cap, hv, by rw [hv]; rfl, h1, h2⟩
theorem fam_box {w : World} {B b : Nat} {e : TypeId} {xs : List Value} (hB : B ≤ b) (h : w.heap[b]? = some (.cells xs.toArray e)) : w.ownsRow B e xs.length (boxV b) 1 xs := by
  refine ⟨by simp, Or.inr ⟨b, 1, xs.toArray, rfl, hB, h, Nat.le_refl _, by decide, by simp, by simp⟩⟩

def upd {ι : Type} [DecidableEq ι] {α : Type} (f : ι → α) (r : ι) (x : α) : ι → α := fun q => if q = r then x else f q
section
variable {ι : Type} [DecidableEq ι]
theorem upd_self {α : Type} (f : ι → α) (r : ι) (x : α) : upd f r x r = x := by simp [upd]
theorem upd_ne {α : Type} (f : ι → α) {r q : ι} (x : α) (h : q ≠ r) : upd f r x q = f q := by simp [upd, h]
end

/-- Rows under names, in blocks that are apart. -/
structure Fam {ι : Type} (w : World) (B : Nat) (ty : ι → TypeId) (sz : ι → Nat) (v : ι → Value) (n : ι → Nat) (xs : ι → List Value) : Prop where
  own : ∀ r, w.ownsRow B (ty r) (sz r) (v r) (n r) (xs r)
  apart : ∀ r q g, (v r).ownBlock = some g → (v q).ownBlock = some g → r = q

section
variable {ι : Type} {w w1 w2 : World} {B : Nat} {ty : ι → TypeId} {sz : ι → Nat} {v v1 v2 : ι → Value} {n n1 : ι → Nat} {xs xs1 : ι → List Value}

theorem Fam.below (h : Fam w B ty sz v n xs) (hb : Below w.heap.size w w1) : Fam w1 B ty sz v n xs :=
  ⟨fun r => fam_keeps (h.own r) (fun g hg => hb.block g ((h.own r).lt g hg).2), h.apart⟩
theorem Fam.low (h : Fam w B ty sz v n xs) : ∀ r g, (v r).ownBlock = some g → B ≤ g := fun r g e => ((h.own r).lt g e).1
theorem Fam.lt (h : Fam w B ty sz v n xs) {r : ι} {g : Nat} (e : (v r).ownBlock = some g) : g < w.heap.size := ((h.own r).lt g e).2
theorem Fam.ne (h : Fam w B ty sz v n xs) {r q : ι} {g k : Nat} (e : (v r).ownBlock = some g) (f : (v q).ownBlock = some k) (hne : r ≠ q) : g ≠ k := fun x => hne (h.apart r q g e (by rw [x]; exact f))
theorem Fam.cell (h : Fam w B ty sz v n xs) {r : ι} {g i : Nat} {u : Value} (e : (v r).ownBlock = some g) (hu : (xs r)[i]? = some u) : w.cell? ⟨g, i, none⟩ = some u := fam_cell (h.own r) e hu
theorem Fam.frozen (h : Fam w B ty sz v n xs) {r : ι} {g : Nat} (e : (v r).ownBlock = some g) (i : Nat) : w.frozen? ⟨g, i, none⟩ = false := fam_frozen (h.own r) e i
/-- The same, said otherwise. -/
theorem Fam.same (h : Fam w B ty sz v n xs) (hn : ∀ r, n1 r = n r) (hx : ∀ r, xs1 r = xs r) : Fam w B ty sz v n1 xs1 := ⟨fun r => by rw [hn, hx]; exact h.own r, h.apart⟩

/-- A store into a row. -/
theorem Fam.put (h : Fam w B ty sz v n xs) {r : ι} {g : Nat} (e : (v r).ownBlock = some g) (i : Nat) (u : Value) (hn : ∀ q, n1 q = n q) (hr : xs1 r = (xs r).set i u) (hne : ∀ q, q ≠ r → xs1 q = xs q) : Fam (w.setCell ⟨g, i, none⟩ u) B ty sz v n1 xs1 := by
  refine ⟨fun q => ?_, h.apart⟩
  rw [hn q]
  by_cases hq : q = r
  · subst hq
    rw [hr]
    exact fam_put (h.own q) e i u
  · rw [hne q hq]
    exact fam_keeps (h.own q) (fun k hk => Below.heap_setCell _ _ _ _ (h.ne hk e hq))
variable [DecidableEq ι]
/-- An append to a row: it lies where it lay, or in new memory. -/
theorem Fam.grow (h : Fam w B ty sz v n xs) {r : ι} {g m c H : Nat} {ys : List Value} (hown : w1.ownsRow B (ty r) (sz r) (.slice (some ⟨g, 0, none⟩) m c) m ys) (hgrow : w.grownBy w1 (v r).ownBlock) (hat : (v r).ownBlock = some g ∨ g = H) (hH : w.heap.size ≤ H)
    (hn : n1 r = m) (hnn : ∀ q, q ≠ r → n1 q = n q) (hr : xs1 r = ys) (hne : ∀ q, q ≠ r → xs1 q = xs q) : Fam w1 B ty sz (upd v r (.slice (some ⟨g, 0, none⟩) m c)) n1 xs1 := by
  have far : ∀ q k, q ≠ r → (v q).ownBlock = some k → k ≠ g := fun q k hq hk e => by
    rcases hat with h1 | h1
    · exact hq (h.apart q r k hk (by rw [e]; exact h1))
    · have := h.lt hk; omega
  refine ⟨fun q => ?_, ?_⟩
  · by_cases hq : q = r
    · subst hq
      rw [hr, hn, upd_self]
      exact hown
    · rw [hne q hq, hnn q hq, upd_ne _ _ hq]
      refine fam_keeps (h.own q) fun k hk => hgrow.block k (h.lt hk) (fun e => hq (h.apart q r k hk e.symm))
  · intro a b k ha hb
    by_cases h1 : a = r
    · by_cases h2 : b = r
      · rw [h1, h2]
      · subst h1
        rw [upd_self] at ha
        rw [upd_ne _ _ h2] at hb
        have e : g = k := by simpa [Value.ownBlock] using ha
        exact absurd e.symm (far b k h2 hb)
    · rw [upd_ne _ _ h1] at ha
      by_cases h2 : b = r
      · subst h2
        rw [upd_self] at hb
        have e : g = k := by simpa [Value.ownBlock] using hb
        exact absurd e.symm (far a k h1 ha)
      · rw [upd_ne _ _ h2] at hb
        exact h.apart a b k ha hb
end

/-! Rows of three cells each. -/
end

section
open Go.RowKit

def tokC (t : Tok) : List Value := [.int .i64 t.kind, .int .i64 t.num, .int .i64 t.pos, .string ⟨⟨t.text⟩⟩]
def toksV (l : List Tok) : List Value := l.flatMap tokC
theorem toksV_snoc (l : List Tok) (t : Tok) : toksV (l ++ [t]) = toksV l ++ tokC t := by simp [toksV]
/-- A token that is nothing. -/
def tok0 : Tok := ⟨0, 0, 0, []⟩
theorem toksV_at : ∀ {l : List Tok} {i : Nat}, i < l.length → (toksV l)[i * 4]? = some (.int .i64 (l.getD i tok0).kind) ∧ (toksV l)[i * 4 + 1]? = some (.int .i64 (l.getD i tok0).num) ∧ (toksV l)[i * 4 + 2]? = some (.int .i64 (l.getD i tok0).pos) ∧ (toksV l)[i * 4 + 3]? = some (.string ⟨⟨(l.getD i tok0).text⟩⟩)
  | [], i, h => absurd h (Nat.not_lt_zero _)
  | x :: l, 0, _ => ⟨rfl, rfl, rfl, rfl⟩
  | x :: l, i + 1, h => by
    have := toksV_at (l := l) (i := i) (by simpa using h)
    have e : ∀ k, (toksV (x :: l))[(i + 1) * 4 + k]? = (toksV l)[i * 4 + k]? := fun k => by
      rw [show (i + 1) * 4 + k = (i * 4 + k) + 4 by omega]
      rfl
    have e0 := e 0
    rw [Nat.add_zero, Nat.add_zero] at e0
    rw [e0, e 1, e 2, e 3]
    exact this
/-- A list of tokens that was made. -/
def OwnT (w : World) (B : Nat) (v : Value) (l : List Tok) : Prop := w.ownsRow B 98 4 v l.length (toksV l)
theorem OwnT.below {w w' : World} {B : Nat} {v : Value} {l : List Tok} (h : OwnT w B v l) (hb : Below w.heap.size w w') : OwnT w' B v l := owns_below2 h hb
theorem ownT_nil (w : World) (B : Nat) : OwnT w B nilV [] := World.ownsRow_nil _ _ _ _
theorem OwnT.form {w : World} {B : Nat} {v : Value} {l : List Tok} (h : OwnT w B v l) : ∃ a c, v = .slice a l.length c := fam_form h
theorem OwnT.cells {w : World} {B : Nat} {a : Option Addr} {c : Nat} {l : List Tok} (h : OwnT w B (.slice a l.length c) l) {k : Nat} (hk : k < l.length) :
    ∃ g, a = some ⟨g, 0, none⟩ ∧ w.cell? ⟨g, k * 4, none⟩ = some (.int .i64 (l.getD k tok0).kind) ∧ w.cell? ⟨g, k * 4 + 1, none⟩ = some (.int .i64 (l.getD k tok0).num) ∧ w.cell? ⟨g, k * 4 + 2, none⟩ = some (.int .i64 (l.getD k tok0).pos) ∧ w.cell? ⟨g, k * 4 + 3, none⟩ = some (.string ⟨⟨(l.getD k tok0).text⟩⟩) := by
  obtain ⟨g, cap, e, hg, _⟩ := fam_block h (by omega)
  simp only [Value.slice.injEq] at e
  have hat := toksV_at hk
  exact ⟨g, e.1, fam_cell h hg hat.1, fam_cell h hg hat.2.1, fam_cell h hg hat.2.2.1, fam_cell h hg hat.2.2.2⟩
theorem infoTok : (Tryz.prog.info? 98).map (fun i => (i.zero, i.size, i.bytes)) = some (some (.agg #[.int .i64 0, .int .i64 0, .int .i64 0, .string ⟨#[]⟩]), 4, 40) := by kernel_rfl
/-- One more token. -/
theorem app_tok {w W : World} {B : Nat} {v : Value} {l : List Tok} (h : OwnT w B v l) (hb : Below w.heap.size w W) (hB : B ≤ w.heap.size) (t : Tok) (hl : l.length ≤ 100000) :
    ∃ g cap w3, (AppS #[68, 68] 68 #[v, .slice (some ⟨W.heap.size, 0, none⟩) 1 1]).run Tryz.prog (W.alloc (.cells #[.int .i64 t.kind, .int .i64 t.num, .int .i64 t.pos, .string ⟨⟨t.text⟩⟩] 98)) = .ok (.slice (some ⟨g, 0, none⟩) (l.length + 1) cap) w3 ∧ OwnT w3 B (.slice (some ⟨g, 0, none⟩) (l.length + 1) cap) (l ++ [t]) ∧ (W.alloc (.cells #[.int .i64 t.kind, .int .i64 t.num, .int .i64 t.pos, .string ⟨⟨t.text⟩⟩] 98)).grownBy w3 v.ownBlock := by
  obtain ⟨g, cap, w3, r1, r2, r3, r4⟩ := app_row (T := 68) Tryz.underlying68 infoTok rfl (by omega) h hb hB 1 #[.int .i64 t.kind, .int .i64 t.num, .int .i64 t.pos, .string ⟨⟨t.text⟩⟩] rfl (by simp [Value.oneCell']) (by omega) (by omega) (by omega)
  refine ⟨g, cap, w3, r1, ?_, r3⟩
  unfold OwnT
  rw [List.length_append, toksV_snoc]
  exact r2
theorem app_tok_below {w W w3 : World} {B : Nat} {v : Value} {l : List Tok} {o : Obj} (h : OwnT w B v l) (hb : Below w.heap.size w W) (hg : (W.alloc o).grownBy w3 v.ownBlock) (hB : B ≤ w.heap.size) {S : World} (hS : Below B S W) : Below B S w3 := by
  have hs := hb.size
  exact (hS.alloc (by omega) o).grown hg (by simp; omega) (fun k hk => (h.lt k hk).1)
end

section
open Go.RowKit

/-- The document's parser in memory. -/
structure Ps (w : World) (P : Nat) (T : List Tok) (E : Int) (i : Nat) (d : Int) (tv lv : Value) (c a : Int) : Prop where
  box : w.heap[P]? = some (.cells #[tv, .int .i64 E, .int .i64 (i : Int), .int .i64 d, lv, .int .i64 c, .int .i64 0, .int .i64 a] 73)
  toks : OwnT w 0 tv T
  apart : tv.ownBlock ≠ some P
  le : i ≤ T.length
  few : T.length ≤ 4000

section
variable {w : World} {P : Nat} {T : List Tok} {E : Int} {i : Nat} {d : Int} {tv lv : Value} {c a : Int}
theorem Ps.c0 (h : Ps w P T E i d tv lv c a) : w.cell? ⟨P, 0, none⟩ = some tv := box_cell h.box rfl
theorem Ps.c1 (h : Ps w P T E i d tv lv c a) : w.cell? ⟨P, 1, none⟩ = some (.int .i64 E) := box_cell h.box rfl
theorem Ps.c2 (h : Ps w P T E i d tv lv c a) : w.cell? ⟨P, 2, none⟩ = some (.int .i64 (i : Int)) := box_cell h.box rfl
theorem Ps.c3 (h : Ps w P T E i d tv lv c a) : w.cell? ⟨P, 3, none⟩ = some (.int .i64 d) := box_cell h.box rfl
theorem Ps.c4 (h : Ps w P T E i d tv lv c a) : w.cell? ⟨P, 4, none⟩ = some lv := box_cell h.box rfl
theorem Ps.c5 (h : Ps w P T E i d tv lv c a) : w.cell? ⟨P, 5, none⟩ = some (.int .i64 c) := box_cell h.box rfl
end

theorem cell_far9 {w : World} {b o b' o' : Nat} {u v : Value} (h : w.cell? ⟨b, o, none⟩ = some v) (hne : b ≠ b') : (w.setCell ⟨b', o', none⟩ u).cell? ⟨b, o, none⟩ = some v := (World.cell?_of_block (Below.heap_setCell _ _ _ _ hne)).trans h
theorem getD_drop {T : List Tok} {i : Nat} (hlt : i < T.length) : T.drop i = T.getD i tok0 :: T.drop (i + 1) := by
  rw [List.drop_eq_getElem_cons hlt, List.getD_eq_getElem?_getD, List.getElem?_eq_getElem hlt]; rfl
set_option maxRecDepth 100000 in
set_option maxHeartbeats 1600000 in
theorem rat_any {w : World} {P : Nat} {T : List Tok} {E : Int} {i : Nat} {d : Int} {tv lv : Value} {c a : Int} (h : Ps w P T E i d tv lv c a) :
    Calls Tryz.prog 28 #[.pointer (some ⟨P, 0, none⟩)] w fun e w' => e = .returned (.int .i64 (posOf E (T.drop i))) ∧ Below w.heap.size w w' := by
  have hle := h.le
  have hfew := h.few
  obtain ⟨ta, tc, rfl⟩ := h.toks.form
  have c0 := h.c0
  have c1 := h.c1
  have c2 := h.c2
  by_cases hlt : i < T.length
  · obtain ⟨g, rfl, t0, t1, t2, t3⟩ := h.toks.cells hlt
    have hlt' : (i : Int) < (T.length : Int) := by omega
    rw [getD_drop hlt, posOf]
    obtain ⟨⟨k, v, p, t⟩, ht⟩ : ∃ x, T.getD i tok0 = x := ⟨_, rfl⟩
    rw [ht] at t0 t1 t2 t3 ⊢
    simp only at t0 t1 t2 t3 ⊢
    clear h ht
    go_enter Tryz.func28, Tryz.ntmps28
    go_wp2
    go_region
    go_wp2
    go_region
    go_wp2
    go_ret
    exact ⟨rfl, (Below.refl _ _).drew.drew⟩
  · have hlt' : ¬ (i : Int) < (T.length : Int) := by omega
    have hq : posOf E (T.drop i) = E := by
      rw [List.drop_eq_nil_of_le (by omega)]; rfl
    rw [hq]
    go_enter Tryz.func28, Tryz.ntmps28
    go_wp2
    go_region
    go_wp2
    go_ret
    exact ⟨rfl, (Below.refl _ _).drew⟩

set_option maxRecDepth 100000 in
set_option maxHeartbeats 1600000 in
theorem ris_any {w : World} {P : Nat} {T : List Tok} {E : Int} {i : Nat} {d : Int} {tv lv : Value} {c a : Int} (h : Ps w P T E i d tv lv c a) (S : ByteArray) :
    Calls Tryz.prog 26 #[.pointer (some ⟨P, 0, none⟩), .string S] w fun e w' => e = .returned (.bool (isTok S.data.toList (T.drop i))) ∧ Below w.heap.size w w' := by
  have hle := h.le
  have hfew := h.few
  obtain ⟨ta, tc, rfl⟩ := h.toks.form
  have c0 := h.c0
  have c2 := h.c2
  by_cases hlt : i < T.length
  · obtain ⟨g, rfl, t0, t1, t2, t3⟩ := h.toks.cells hlt
    have hlt' : (i : Int) < (T.length : Int) := by omega
    rw [getD_drop hlt, isTok]
    obtain ⟨⟨k, v, p, t⟩, ht⟩ : ∃ x, T.getD i tok0 = x := ⟨_, rfl⟩
    rw [ht] at t0 t1 t2 t3 ⊢
    simp only at t0 t1 t2 t3 ⊢
    have hP : P < w.heap.size := lt_of_cell c0
    have hg : g < w.heap.size := lt_of_cell t0
    clear h ht
    have hst : (t == S.toList) = decide (t = S.data.toList) := by
      rw [Lib.toList_data]
      by_cases ht : t = S.data.toList <;> simp [ht]
    by_cases hk2 : k = 2
    · have e2 : (k == 2) = true := by simpa using hk2
      rw [decide_eq_true hk2, ← hst]
      clear hk2 hst
      go_enter Tryz.func26, Tryz.ntmps26
      go_wp2
      go_region
      go_wp2
      go_region
      go_wp2
      go_ret
      exact ⟨ret_bool (by simp), (((Below.refl _ _).alloc (Nat.le_refl _) _).drew).drew⟩
    · have e2 : (k == 2) = false := by simpa using hk2
      rw [decide_eq_false hk2, ← hst]
      by_cases hk4 : k = 4
      · have e4 : (k == 4) = true := by simpa using hk4
        rw [decide_eq_true hk4]
        clear hk2 hst hk4
        go_enter Tryz.func26, Tryz.ntmps26
        go_wp2
        go_region
        go_wp2
        go_region
        go_wp2
        go_ret
        exact ⟨ret_bool (by simp), (((Below.refl _ _).alloc (Nat.le_refl _) _).drew).drew⟩
      · have e4 : (k == 4) = false := by simpa using hk4
        rw [decide_eq_false hk4]
        clear hk2 hst hk4
        go_enter Tryz.func26, Tryz.ntmps26
        go_wp2
        go_region
        go_wp2
        go_region
        go_wp2
        go_ret
        exact ⟨ret_bool (by simp), (((Below.refl _ _).alloc (Nat.le_refl _) _).drew).drew⟩
  · have hlt' : ¬ (i : Int) < (T.length : Int) := by omega
    have hq : isTok S.data.toList (T.drop i) = false := by
      rw [List.drop_eq_nil_of_le (by omega)]; rfl
    rw [hq]
    go_enter Tryz.func26, Tryz.ntmps26
    go_wp2
    go_region
    go_wp2
    go_ret
    exact ⟨rfl, (Below.refl _ _).drew⟩
end

section
open Go.RowKit

/-- A list of numbers lies in w. -/
def IIn (w : World) (a : Option Addr) (n : Nat) (X : Nat → Int) : Prop := ∀ i, i < n → ∃ b o, a = some ⟨b, o, none⟩ ∧ w.cell? ⟨b, o + i, none⟩ = some (.int .i64 (X i))
theorem IIn.below {w w' : World} {a : Option Addr} {n : Nat} {X : Nat → Int} (h : IIn w a n X) (hb : Below w.heap.size w w') : IIn w' a n X := fun i hi => by
  obtain ⟨b, o, hc, h1⟩ := h i hi
  exact ⟨b, o, hc, (hb.cell (lt_of_cell h1)).trans h1⟩

set_option maxHeartbeats 800000 in
theorem ints_same (a a' : Option Addr) (n c c' : Nat) (hn : n ≤ 9223372036854775807) (X : Nat → Int) (w : World) (h : IIn w a n X) (h' : IIn w a' n X) :
    Calls Tryz.prog 7 #[.slice a n c, .slice a' n c'] w fun e w' => e = .returned (.bool true) ∧ Below w.heap.size w w' := by
  go_enter Tryz.func7, Tryz.ntmps7
  go_wp2
  go_loopw [5] (fun i wr => ∃ k : Nat, k ≤ n ∧ i = .int .i64 k ∧ Below w.heap.size w wr) (fun i _ => n - (intOf i).toNat)
  case atStart => exact ⟨0, Nat.zero_le _, rfl, Below.refl _ _⟩
  case round =>
    obtain ⟨k, hk, rfl, hbr⟩ := hrel
    by_cases hlt : k < n
    · obtain ⟨b, o, rfl, hc⟩ := h.below hbr k hlt
      obtain ⟨b', o', rfl, hc'⟩ := h'.below hbr k hlt
      go_wp2
      go_region
      all_goals go_wp2
      all_goals go_roundw
      case rel => exact ⟨k + 1, by omega, by go_num, hbr.drew⟩
      case measure => simp [intOf]; omega
    · go_wp2
      go_ret
      exact ⟨rfl, hbr⟩
end

section
open Go.RowKit

/-- A row that is nothing. -/
def row0 : Row := ⟨0, 0, 0, [], []⟩
/-- One node in memory. -/
structure NdR (w : World) (g i : Nat) (r : Row) (ka : Option Addr) (kc : Nat) : Prop where
  k : w.cell? ⟨g, i * 5, none⟩ = some (.int .i64 r.kind)
  n : w.cell? ⟨g, i * 5 + 1, none⟩ = some (.int .i64 r.num)
  p : w.cell? ⟨g, i * 5 + 2, none⟩ = some (.int .i64 r.pos)
  t : w.cell? ⟨g, i * 5 + 3, none⟩ = some (.string ⟨⟨r.text⟩⟩)
  ks : w.cell? ⟨g, i * 5 + 4, none⟩ = some (.slice ka r.kids.length kc)
  kin : IIn w ka r.kids.length (fun j => r.kids.getD j 0)
  cap : r.kids.length ≤ kc
/-- Nodes in memory, as they are read. -/
structure NdsR (w : World) (a : Option Addr) (rows : List Row) : Prop where
  get : ∀ i, i < rows.length → ∃ g ka kc, a = some ⟨g, 0, none⟩ ∧ NdR w g i (rows.getD i row0) ka kc
theorem NdR.below {w w' : World} {g i : Nat} {r : Row} {ka : Option Addr} {kc : Nat} (h : NdR w g i r ka kc) (hb : Below w.heap.size w w') : NdR w' g i r ka kc := by
  exact ⟨(hb.cell (lt_of_cell h.k)).trans h.k, (hb.cell (lt_of_cell h.n)).trans h.n, (hb.cell (lt_of_cell h.p)).trans h.p, (hb.cell (lt_of_cell h.t)).trans h.t, (hb.cell (lt_of_cell h.ks)).trans h.ks, h.kin.below hb, h.cap⟩
theorem NdsR.below {w w' : World} {a : Option Addr} {rows : List Row} (h : NdsR w a rows) (hb : Below w.heap.size w w') : NdsR w' a rows := ⟨fun i hi => by
  obtain ⟨g, ka, kc, e, h1⟩ := h.get i hi
  exact ⟨g, ka, kc, e, h1.below hb⟩⟩
theorem idxs_get : ∀ (ks : List Nd) (b j : Nat) (y : Nd), ks[j]? = some y → (idxs b ks)[j]? = some ((b + ndsSize (ks.take j) + ndSize y - 1 : Nat) : Int)
  | [], _, _, _, h => by simp at h
  | x :: r, b, 0, y, h => by
    simp only [List.getElem?_cons_zero, Option.some.injEq] at h
    subst h
    have := size_pos x
    rw [idxs]
    simp only [List.getElem?_cons_zero, List.take_zero, ndsSize, Option.some.injEq]
    omega
  | x :: r, b, j + 1, y, h => by
    simp only [List.getElem?_cons_succ] at h
    rw [idxs, List.getElem?_cons_succ, idxs_get r _ j y h, List.take_succ_cons, ndsSize]
    congr 2
    omega
/-- A kid's number, as it is read of a node's copy. -/
theorem kid_num {w0 : World} {ka : Option Addr} {ks : List Nd} {b : Nat} (hin : IIn w0 ka (idxs b ks).length (fun j => (idxs b ks).getD j 0)) {j : Nat} {y : Nd} (hy : ks[j]? = some y) : ∃ kb ko, ka = some ⟨kb, ko, none⟩ ∧ ∀ W, Below w0.heap.size w0 W → W.cell? ⟨kb, ko + j, none⟩ = some (.int .i64 ((b + ndsSize (ks.take j) + ndSize y - 1 : Nat) : Int)) := by
  have hx := idxs_get ks b j y hy
  have hl : j < (idxs b ks).length := by
    rcases Nat.lt_or_ge j (idxs b ks).length with h1 | h1
    · exact h1
    · rw [List.getElem?_eq_none h1] at hx; cases hx
  obtain ⟨kb, ko, e, hc⟩ := hin j hl
  simp only [List.getD_eq_getElem?_getD, hx, Option.getD_some] at hc
  exact ⟨kb, ko, e, fun W hW => (hW.cell (lt_of_cell hc)).trans hc⟩
/-- A program that may be, in memory. -/
structure OfS (w : World) (a : Option Addr) (c : Nat) (rows : List Row) (P : Nat) (us : List Int) : Prop where
  nds : NdsR w a rows
  c0 : w.cell? ⟨P, 0, none⟩ = some (.slice a rows.length c)
  c1 : ∃ ua uc, w.cell? ⟨P, 1, none⟩ = some (.slice ua us.length uc) ∧ IIn w ua us.length (fun j => us.getD j 0)
end

end Go.Proofs.YtggfbfjdiikaeaaGreatDoor
