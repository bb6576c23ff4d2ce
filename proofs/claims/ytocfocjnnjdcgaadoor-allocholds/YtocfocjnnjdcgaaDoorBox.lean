/-
  The box of a program that was handed in.
  Rows that stay where others grow.
  A program and a script that are handed in, opened.
  Three stores into a box.
  Orders anew, by the program: what is known of the new program while it is made.
  States are found again by their sums: the last one of a sum, and the one ahead of it: plain functions.
  What the document's Check does.
  slices.Repeat of one number (at the seat of colours).
-/
import Derived.Test.YtocfocjnnjdcgaaDoorOrder
import Derived.Test.YtocfocjnnjdcgaaDoorFam
import Derived.Test.YtocfocjnnjdcgaaDoorCheckA
import Derived.Test.YtocfocjnnjdcgaaDoorRunP
import Derived.Test.YtocfocjnnjdcgaaDoorShelf
import Derived.Laws.CopyRow
import Derived.Deep.OwnRows
import Derived.WalkKit
import Derived.WalkSpells
import Derived.WalkLawsBesides
import Derived.Lib.SmallJoins
namespace Go.Proofs.YtocfocjnnjdcgaaDoor
section
open Go.RowKit

abbrev boxQ (ca : Option Addr) (n cc : Nat) (wa : Option Addr) (m wc : Nat) (lk rg : Int) : Obj := .cells #[.slice ca n cc, .slice wa m wc, .int .i64 lk, .int .i64 rg] 25

theorem box_lt {w : World} {g : Nat} {o : Obj} (h : w.heap[g]? = some o) : g < w.heap.size := by
  rcases Nat.lt_or_ge g w.heap.size with h1 | h1
  · exact h1
  · rw [Array.getElem?_eq_none h1] at h; cases h

theorem heap_set_same {w : World} {g i : Nat} {cs : Array Value} {t : TypeId} {u : Value} (h : w.heap[g]? = some (.cells cs t)) : (w.setCell ⟨g, i, none⟩ u).heap[g]? = some (.cells (cs.setIfInBounds i u) t) := by
  simp only [World.setCell, Array.getElem?_modify, if_true, h, Option.map_some]
  rfl

theorem own_type {w : World} {B : Nat} {e t : TypeId} {size : Nat} {v : Value} {n g : Nat} {xs : List Value} {c : Array Value} (h : w.ownsRow B e size v n xs) (hg : w.heap[g]? = some (.cells c t (0, 0))) (hne : e ≠ t) : v.ownBlock ≠ some g := fun e1 => by
  rcases h.2 with ⟨h0, _⟩ | ⟨g', cap, cur, hv, _, hh, _⟩
  · rw [h0] at e1; simp [Value.ownBlock] at e1
  · rw [hv] at e1
    have e2 : g' = g := by simpa [Value.ownBlock] using e1
    subst e2
    rw [hh] at hg
    simp only [Option.some.injEq, Obj.cells.injEq] at hg
    exact hne hg.2.1
end

section
open Go.RowKit

theorem grown_block {w w' : World} {r : Option Nat} (h : w.grownBy w' r) {g : Nat} (hg : g < w.heap.size) (hne : r ≠ some g) : w'.heap[g]? = w.heap[g]? := h.block g hg (fun e => hne e.symm)
/-- A row stays where another one grows. -/
theorem own_grown {w w' : World} {r : Option Nat} {B : Nat} {e : TypeId} {size : Nat} {v : Value} {n : Nat} {xs : List Value} (h : w.ownsRow B e size v n xs) (hg : w.grownBy w' r) (hne : ∀ g, v.ownBlock = some g → r ≠ some g) : w'.ownsRow B e size v n xs :=
  fam_keeps h fun g e => grown_block hg (h.lt g e).2 (hne g e)
theorem owns_two {W : World} {B B' : Nat} {e e' : TypeId} {size size' : Nat} {v v' : Value} {n n' : Nat} {xs xs' : List Value} (h : W.ownsRow B e size v n xs) (h' : W.ownsRow B' e' size' v' n' xs') (hne : e ≠ e') {g : Nat} (h1 : v.ownBlock = some g) : v'.ownBlock ≠ some g := fun h2 => by
  rcases h.2 with ⟨h0, _⟩ | ⟨g1, cap, cur, hv, _, hh, _⟩
  · rw [h0] at h1; simp [Value.ownBlock] at h1
  rcases h'.2 with ⟨h0, _⟩ | ⟨g2, cap2, cur2, hv2, _, hh2, _⟩
  · rw [h0] at h2; simp [Value.ownBlock] at h2
  rw [hv] at h1
  rw [hv2] at h2
  have e1 : g1 = g := by simpa [Value.ownBlock] using h1
  have e2 : g2 = g := by simpa [Value.ownBlock] using h2
  rw [e1] at hh
  rw [e2, hh] at hh2
  simp only [Option.some.injEq, Obj.cells.injEq] at hh2
  exact hne hh2.2.1
end

section
open Go.ChangeShapes Go.WideShapes Go.ChangeAt Go.RowKit Go.Joins Go.Deep

theorem Tryd.own : ownKnob Tryd.prog.godebug = none := by kernel_rfl
theorem Tryd.laidOut : laidOutB Tryd.prog = true := by kernel_rfl
theorem Tryd.readableP : Tryd.prog.readableRec 25 = true := by kernel_rfl
theorem Tryd.readableI : Tryd.prog.readableRec 23 = true := by kernel_rfl

/-- A list of numbers that is handed in, opened. -/
theorem open_ints {H : Type} {enc : TypeId × Value → H} {W : World} {fuel : Nat} {v : Value} {x : DataW H × List MemPlace} (h : DataW.trod enc Tryd.prog W 0 (fun _ => true) true fuel 23 [v] = some x) :
    ∃ (sa : Option Addr) (xs : List Int) (sc : Nat), v = .slice sa xs.length sc ∧ xs.length ≤ sc ∧ sc ≤ maxLen ∧ SIs W sa xs ∧ (sa = none → xs = [] ∧ sc = 0) := by
  rcases open_slice1 Tryd.underlying23 cells3 h with ⟨hcs, _⟩ | ⟨a, len, cap, _, _, V, _, _, hcs, _, hl, hm, hmm, _, hx⟩
  · simp at hcs
    subst hcs
    exact ⟨none, [], 0, rfl, by simp, by simp, fun i hi => absurd hi (Nat.not_lt_zero _), fun _ => ⟨rfl, rfl⟩⟩
  · simp at hcs hmm
    subst hcs
    obtain ⟨Y, hY⟩ := choose_lt (α := Int) (p := fun i (y : Int) => W.cell? (a.add i) = some (.int .i64 y)) (n := len) (fun i hi => by
      obtain ⟨x1, x2⟩ := hx i (by omega)
      obtain ⟨y, e, _, _⟩ := DataW.trod_int Tryd.underlying3 x2
      simp at e
      exact ⟨y, by rw [x1, e]⟩)
    have hlen : ((List.range len).map Y).length = len := by simp
    refine ⟨some a, (List.range len).map Y, cap, by rw [hlen], by rw [hlen]; exact hl, hm, fun i hi => ?_, fun e => by cases e⟩
    rw [hlen] at hi
    obtain ⟨b, o, sp⟩ := a
    have hsp : sp = none := by simpa [Addr.add] using World.cell?_spot (hY 0 (by omega))
    subst hsp
    refine ⟨b, o, rfl, ?_⟩
    rw [← Go.WideShapes.add_plain, hY i hi]
    simp [List.getD, hi]

set_option maxRecDepth 100000 in
/-- A program that is handed in, opened. -/
theorem open_prog2 {H : Type} {enc : TypeId × Value → H} {W : World} {b0 : Nat} {v : Value} {d : DataW H} {p : List MemPlace} (hv : Value.okWide Tryd.prog W .any b0 25 v) (h : DataW.Trod enc Tryd.prog W 0 (fun _ => true) true 25 v d p) :
    ∃ (ca : Option Addr) (n cc : Nat) (wa : Option Addr) (words : List Int) (wc : Nat) (lk rg : Int) (A : Nat → Option Addr) (L C : Nat → Nat) (X : Nat → Nat → Nat → Int), v = prgV ca n cc wa words.length wc lk rg ∧ words.length ≤ 9223372036854775807 ∧ PIn W ca n A L C X ∧ SIs W wa words ∧ (wa = none → words = [] ∧ wc = 0) := by
  obtain ⟨c0, c1, c2, c3, y0, y1, y2, y3, m, rfl, _, _, h0, h1, h2, h3⟩ := open_agg4 Tryd.underlying25 (by kernel_rfl) cells25 hv h
  obtain ⟨ca, n, cc, A, L, C, X, rfl, hp, _⟩ := read_code h0
  obtain ⟨lk, e2, _, _⟩ := DataW.trod_int Tryd.underlying3 h2
  obtain ⟨rg, e3, _, _⟩ := DataW.trod_int Tryd.underlying3 h3
  simp at e2 e3
  subst e2 e3
  obtain ⟨wa, words, wc, rfl, hl, hm, hs, hn⟩ := open_ints h1
  exact ⟨ca, n, cc, wa, words, wc, lk, rg, A, L, C, X, rfl, by unfold maxLen at hm; omega, hp, hs, hn⟩
end

section
open Go.RowKit

/-- Three stores into a box change nothing else. -/
theorem set3_far {W : World} {F g : Nat} (hg : g ≠ F) (x y z : Value) : (((W.setCell ⟨F, 0, none⟩ x).setCell ⟨F, 1, none⟩ y).setCell ⟨F, 2, none⟩ z).heap[g]? = W.heap[g]? := by
  have e : ∀ (Z : World) (q : Nat) (u : Value), (Z.setCell ⟨F, q, none⟩ u).heap[g]? = Z.heap[g]? := fun Z q u => Below.heap_setCell _ _ _ _ (fun x => hg (by simpa using x))
  rw [e, e, e]
theorem set3_is {W : World} {F : Nat} {a b c : Value} (h : W.heap[F]? = some (.cells #[a, b, c] 30)) (x y z : Value) : (((W.setCell ⟨F, 0, none⟩ x).setCell ⟨F, 1, none⟩ y).setCell ⟨F, 2, none⟩ z).heap[F]? = some (.cells #[x, y, z] 30) :=
  heap_set_same (i := 2) (u := z) (heap_set_same (i := 1) (u := y) (heap_set_same (i := 0) (u := x) h))
theorem set3_low {B : Nat} {w W : World} (h : Below B w W) {F : Nat} (hF : B ≤ F) (x y z : Value) : Below B w (((W.setCell ⟨F, 0, none⟩ x).setCell ⟨F, 1, none⟩ y).setCell ⟨F, 2, none⟩ z) := ((h.setCell (p := ⟨F, 0, none⟩) hF x).setCell (p := ⟨F, 1, none⟩) hF y).setCell (p := ⟨F, 2, none⟩) hF z
/-- Four stores into a box of a program. -/
theorem set4_far {W : World} {F g : Nat} (hg : g ≠ F) (x y z u : Value) : ((((W.setCell ⟨F, 0, none⟩ x).setCell ⟨F, 1, none⟩ y).setCell ⟨F, 2, none⟩ z).setCell ⟨F, 3, none⟩ u).heap[g]? = W.heap[g]? :=
  (Below.heap_setCell _ _ _ _ (fun x => hg (by simpa using x))).trans (set3_far hg x y z)
theorem set4_is {W : World} {F : Nat} {a b c d : Value} (h : W.heap[F]? = some (.cells #[a, b, c, d] 25)) (x y z u : Value) : ((((W.setCell ⟨F, 0, none⟩ x).setCell ⟨F, 1, none⟩ y).setCell ⟨F, 2, none⟩ z).setCell ⟨F, 3, none⟩ u).heap[F]? = some (.cells #[x, y, z, u] 25) :=
  heap_set_same (i := 3) (u := u) (heap_set_same (i := 2) (u := z) (heap_set_same (i := 1) (u := y) (heap_set_same (i := 0) (u := x) h)))
theorem set4_low {B : Nat} {w W : World} (h : Below B w W) {F : Nat} (hF : B ≤ F) (x y z u : Value) : Below B w ((((W.setCell ⟨F, 0, none⟩ x).setCell ⟨F, 1, none⟩ y).setCell ⟨F, 2, none⟩ z).setCell ⟨F, 3, none⟩ u) := (set3_low h hF x y z).setCell (p := ⟨F, 3, none⟩) hF u
end

section
open Go.RowKit

/-- What is known while a thread's orders are made: from the world S on. j orders, i places. -/
structure InI (S : World) (b : Nat → List I4) (j i : Nat) (W : World) (cv pv : Value) : Prop where
  low : Below S.heap.size S W
  code : OwnC W S.heap.size cv (rawR b j)
  pls : W.ownsRow S.heap.size 3 1 pv i (intsV ((List.range i).map fun k => (plR b k : Int)))
  apart : ∀ g, cv.ownBlock = some g → pv.ownBlock ≠ some g
section
variable {S W : World} {b : Nat → List I4} {j i : Nat} {cv pv : Value}
theorem InI.start (S : World) (b : Nat → List I4) : InI S b 0 0 S nilV nilV := ⟨Below.refl _ _, World.ownsRow_nil _ _ _ _, World.ownsRow_nil _ _ _ _, fun g h => by simp [Value.ownBlock] at h⟩
theorem InI.below (h : InI S b j i W cv pv) {W' : World} (hb : Below W.heap.size W W') : InI S b j i W' cv pv := ⟨h.low.trans (hb.mono h.low.size), h.code.below hb, owns_below2 h.pls hb, h.apart⟩
/-- One place more. -/
theorem InI.place (h : InI S b j i W cv pv) {V : World} (hb : Below W.heap.size W V) {q : Nat} (hq : q = plR b i) (hi : i ≤ 1000) :
    ∃ g cap w3, (AppS #[23, 23] 23 #[pv, .slice (some ⟨V.heap.size, 0, none⟩) 1 1]).run Tryd.prog (V.alloc (.cells #[.int .i64 q] 3)) = .ok (.slice (some ⟨g, 0, none⟩) (i + 1) cap) w3 ∧ InI S b j (i + 1) w3 cv (.slice (some ⟨g, 0, none⟩) (i + 1) cap) ∧ Below S.heap.size S w3 := by
  have h0 := h.below hb
  obtain ⟨g, cap, w3, r1, r2, r3, r4⟩ := app_row (T := 23) Tryd.underlying23 infoI rfl (by omega) h0.pls (Below.refl _ V) h0.low.size 1 #[.int .i64 q] rfl (by simp [Value.oneCell']) (by omega) (by omega) (by omega)
  have hl := h0.low.size
  have hlow : Below S.heap.size S w3 := (h0.low.alloc hl _).grown r3 (by simp; omega) (fun k hk => by have := (h0.pls.lt k hk).1; omega)
  refine ⟨g, cap, w3, r1, ⟨hlow, ?_, ?_, fun k hk => ?_⟩, hlow⟩
  · exact own_grown (show (V.alloc (.cells #[.int .i64 q] 3)).ownsRow _ _ _ _ _ _ from owns_below2 h0.code ((Below.refl _ _).alloc (Nat.le_refl _) _)) r3 (fun k hk e => h0.apart k hk e)
  · have e : intsV ((List.range (i + 1)).map fun k => (plR b k : Int)) = intsV ((List.range i).map fun k => (plR b k : Int)) ++ [.int .i64 q] := by
      rw [List.range_succ, List.map_append, hq]
      simp [intsV]
    rw [e]
    exact r2
  · intro e
    have eg : g = k := by simpa [Value.ownBlock] using e
    subst eg
    rcases r4 with r4 | r4
    · exact h0.apart g hk r4
    · have := (h0.code.lt g hk).2
      omega
/-- More orders. -/
theorem InI.more (h : InI S b j i W cv pv) {V : World} (hb : Below W.heap.size W V) (sa : Option Addr) (c : Nat) (hs : SrcL V sa (cellsT (b j))) (hl : plR b j + (b j).length ≤ 1000000) :
    ∃ v w3, (AppS #[36, 36] 36 #[cv, .slice sa (b j).length c]).run Tryd.prog V = .ok v w3 ∧ InI S b (j + 1) i w3 v pv ∧ Below S.heap.size S w3 := by
  have h0 := h.below hb
  obtain ⟨v, w3, r1, r2, r3, r4⟩ := app_code h0.code h0.low.size sa c (b j) hs (by rw [raw_len]; exact hl)
  have hlow : Below S.heap.size S w3 := h0.low.grown r3 h0.low.size (fun k hk => (h0.code.lt k hk).1)
  refine ⟨v, w3, r1, ⟨hlow, r2, own_grown h0.pls r3 (fun g e1 e2 => h0.apart g e2 e1), fun g e1 e2 => ?_⟩, hlow⟩
  rcases r4 with r4 | r4
  · exact h0.apart g (by rw [← r4]; exact e1) e2
  · rw [r4] at e1
    have := (h0.pls.lt g e2).2
    have : V.heap.size = g := by simpa using e1
    omega
/-- The places lie there. -/
theorem InI.sis (h : InI S b j i W cv pv) {a : Option Addr} {c : Nat} (hv : pv = .slice a i c) : SIs W a ((List.range i).map fun k => (plR b k : Int)) := fun k hk => by
  have hk' : k < i := by simpa using hk
  obtain ⟨g, cap, e, hg, _⟩ := fam_block h.pls (by omega)
  rw [hv] at e
  simp only [Value.slice.injEq] at e
  refine ⟨g, 0, e.1, ?_⟩
  have := fam_cell h.pls hg (intsV_at (l := (List.range i).map fun k => (plR b k : Int)) hk)
  rw [Nat.zero_add]
  exact this
end
/-- What is known of the new program while it is made: from the world S on, its box at qb, k threads. -/
structure RwI (S : World) (qb : Nat) (uv : Value) (words : List Int) (lk rg : Int) (b : Nat → Nat → List I4) (L : Nat → Nat) (k : Nat) (W : World) (cv : Value) (tv : List Value) : Prop where
  low : Below S.heap.size S W
  hq : S.heap.size ≤ qb
  box : W.heap[qb]? = some (.cells #[cv, uv, .int .i64 lk, .int .i64 rg] 25)
  words : W.ownsRow S.heap.size 3 1 uv words.length (intsV words)
  wq : uv.ownBlock ≠ some qb
  code : W.ownsRow S.heap.size 36 1 cv k tv
  cq : cv.ownBlock ≠ some qb
  cw : ∀ g, uv.ownBlock = some g → cv.ownBlock ≠ some g
  thr : ∀ t, t < k → OwnC W S.heap.size (tv.getD t nilV) (codeR (b t) (L t)) ∧ ∀ g, (tv.getD t nilV).ownBlock = some g → g ≠ qb ∧ cv.ownBlock ≠ some g
section
variable {S W : World} {qb : Nat} {uv cv : Value} {words : List Int} {lk rg : Int} {b : Nat → Nat → List I4} {L : Nat → Nat} {k : Nat} {tv : List Value}
theorem RwI.below (h : RwI S qb uv words lk rg b L k W cv tv) {W' : World} (hb : Below W.heap.size W W') : RwI S qb uv words lk rg b L k W' cv tv :=
  ⟨h.low.trans (hb.mono h.low.size), h.hq, (hb.block _ (box_lt h.box)).trans h.box, owns_below2 h.words hb, h.wq, owns_below2 h.code hb, h.cq, h.cw, fun t ht => ⟨(h.thr t ht).1.below hb, (h.thr t ht).2⟩⟩
/-- One thread more. -/
theorem RwI.push (h : RwI S qb uv words lk rg b L k W cv tv) {V : World} (hb : Below W.heap.size W V) {v : Value} {T : Nat} (hT : W.heap.size ≤ T) (hv : OwnC V T v (codeR (b k) (L k))) (hk : k ≤ 1000) :
    ∃ g cap w3, (AppS #[22, 22] 22 #[cv, .slice (some ⟨V.heap.size, 0, none⟩) 1 1]).run Tryd.prog (V.alloc (.cells #[v] 36)) = .ok (.slice (some ⟨g, 0, none⟩) (k + 1) cap) w3 ∧ w3.heap[qb]? = some (.cells #[cv, uv, .int .i64 lk, .int .i64 rg] 25) ∧ Below S.heap.size S w3 ∧
      RwI S qb uv words lk rg b L (k + 1) (w3.setCell ⟨qb, 0, none⟩ (.slice (some ⟨g, 0, none⟩) (k + 1) cap)) (.slice (some ⟨g, 0, none⟩) (k + 1) cap) (tv ++ [v]) := by
  have h0 := h.below hb
  have hl := h0.low.size
  have hwq : qb < W.heap.size := box_lt h.box
  have hone : v.oneCell' = true := by
    rcases hv.2 with ⟨rfl, _⟩ | ⟨g, cap, cur, rfl, _⟩ <;> rfl
  obtain ⟨g, cap, w3, r1, r2, r3, r4⟩ := app_row (T := 22) Tryd.underlying22 infoOs rfl (by omega) h0.code (Below.refl _ V) hl 1 #[v] rfl (by simp [hone]) (by omega) (by omega) (by omega)
  have hbA : Below V.heap.size V (V.alloc (.cells #[v] 36)) := (Below.refl _ _).alloc (Nat.le_refl _) _
  have hlow : Below S.heap.size S w3 := (h0.low.alloc hl _).grown r3 (by simp; omega) (fun q hq => (h0.code.lt q hq).1)
  have hq3 : w3.heap[qb]? = some (.cells #[cv, uv, .int .i64 lk, .int .i64 rg] 25) := by
    rw [grown_block r3 (by simp; have := box_lt h0.box; omega) h0.cq]
    exact (hbA.block _ (box_lt h0.box)).trans h0.box
  have hgq : g ≠ qb := fun e => by
    rcases r4 with r4 | r4
    · exact h0.cq (by rw [r4, e])
    · have := box_lt h0.box
      omega
  have hold : ∀ x, x < V.heap.size → cv.ownBlock ≠ some x → x ≠ g := fun x hx hne e => by
    rcases r4 with r4 | r4
    · exact hne (by rw [r4, e])
    · omega
  have htl : tv.length = k := by have := h.code.1; omega
  refine ⟨g, cap, w3, r1, hq3, hlow, ⟨hlow.setCell h.hq _, h.hq, ?_, ?_, h.wq, ?_, ?_, fun x hx e => ?_, fun t ht => ?_⟩⟩
  · rw [heap_set_same hq3]
    rfl
  · exact owns_far (own_grown (owns_below2 h0.words hbA) r3 (fun x hx => h0.cw x hx)) h.wq
  · refine owns_far r2 ?_
    simp only [Value.ownBlock]
    exact fun e => hgq (by simpa using e)
  · simp only [Value.ownBlock]
    exact fun e => hgq (by simpa using e)
  · have : g = x := by simpa [Value.ownBlock] using e
    exact hold x (h0.words.lt x hx).2 (h0.cw x hx) this.symm
  · by_cases e : t = k
    · subst e
      have e1 : (tv ++ [v]).getD t nilV = v := by simp [List.getD, ← htl]
      rw [e1]
      have hvq : ∀ x, v.ownBlock = some x → x ≠ qb ∧ x < V.heap.size ∧ cv.ownBlock ≠ some x := fun x hx => by
        have h1 := hv.lt x hx
        refine ⟨by omega, h1.2, fun e2 => ?_⟩
        have := (h.code.lt x e2).2
        omega
      refine ⟨owns_far (own_grown (owns_below2 (own_low hv (by have := h.low.size; omega)) hbA) r3 (fun x hx => (hvq x hx).2.2)) (fun e2 => (hvq qb e2).1 rfl), fun x hx => ⟨(hvq x hx).1, fun e2 => ?_⟩⟩
      have : g = x := by simpa [Value.ownBlock] using e2
      exact hold x (hvq x hx).2.1 (hvq x hx).2.2 this.symm
    · have ht' : t < k := by omega
      have e1 : (tv ++ [v]).getD t nilV = tv.getD t nilV := by simp [List.getD, List.getElem?_append_left (show t < tv.length by omega)]
      rw [e1]
      have h1 := h0.thr t ht'
      refine ⟨owns_far (own_grown (owns_below2 h1.1 hbA) r3 (fun x hx => (h1.2 x hx).2)) (fun e2 => (h1.2 qb e2).1 rfl), fun x hx => ⟨(h1.2 x hx).1, fun e2 => ?_⟩⟩
      have : g = x := by simpa [Value.ownBlock] using e2
      exact hold x (h1.1.lt x hx).2 (h1.2 x hx).2 this.symm
end
end

section
open Go.RowKit

/-- The last of the first n whose sum is h; -1: none. -/
def lastS (f : Nat → Nat) (h : Nat) : Nat → Int
  | 0 => -1
  | n + 1 => if f n = h then (n : Int) else lastS f h n
section
variable {f : Nat → Nat} {h : Nat}
theorem last_lt : ∀ n, lastS f h n < n
  | 0 => by show (-1 : Int) < _; omega
  | n + 1 => by
    unfold lastS
    split
    · omega
    · have := last_lt n; omega
theorem last_low : ∀ n, -1 ≤ lastS f h n
  | 0 => by show (-1 : Int) ≤ -1; omega
  | n + 1 => by
    unfold lastS
    split
    · omega
    · exact last_low n
/-- The last one is of the sum, and none behind it is. -/
theorem last_is : ∀ n i, lastS f h n = (i : Nat) → f i = h ∧ ∀ j, i < j → j < n → f j ≠ h
  | 0, i, e => by
    have : (-1 : Int) = (i : Nat) := e
    omega
  | n + 1, i, e => by
    unfold lastS at e
    by_cases hn : f n = h
    · rw [if_pos hn] at e
      obtain rfl : n = i := by omega
      exact ⟨hn, fun j h1 h2 => by omega⟩
    · rw [if_neg hn] at e
      obtain ⟨h1, h2⟩ := last_is n i e
      refine ⟨h1, fun j h3 h4 => ?_⟩
      rcases Nat.lt_or_ge j n with h5 | h5
      · exact h2 j h3 h5
      · obtain rfl : j = n := by omega
        exact hn
theorem last_none : ∀ n, lastS f h n < 0 → ∀ j, j < n → f j ≠ h
  | 0, _, j, hj => absurd hj (Nat.not_lt_zero _)
  | n + 1, e, j, hj => by
    unfold lastS at e
    by_cases hn : f n = h
    · rw [if_pos hn] at e; omega
    · rw [if_neg hn] at e
      rcases Nat.lt_or_ge j n with h5 | h5
      · exact last_none n e j h5
      · obtain rfl : j = n := by omega
        exact hn
theorem last_congr {g : Nat → Nat} : ∀ n, (∀ i, i < n → g i = f i) → lastS g h n = lastS f h n
  | 0, _ => rfl
  | n + 1, e => by
    unfold lastS
    rw [e n (by omega), last_congr n (fun i hi => e i (by omega))]
end
end

section
open Go.RowKit

set_option maxHeartbeats 1000000 in
theorem rcheck_size (ca : Option Addr) (n cc : Nat) (wa : Option Addr) (m wc : Nat) (lk rg : Int) (h : (n : Int) < 1 ∨ 4 < (n : Int) ∨ 64 < (m : Int)) (w : World) :
    Calls Tryd.prog 10 #[prgV ca n cc wa m wc lk rg] w fun e w' => e = .returned (ints3 1 0 0) ∧ Below w.heap.size w w' := by
  rcases (by omega : (n : Int) < 1 ∨ ((1 ≤ (n : Int) ∧ 4 < (n : Int)) ∨ ((1 ≤ (n : Int) ∧ (n : Int) ≤ 4) ∧ 64 < (m : Int)))) with h1 | h1 | h1
  all_goals
    clear h
    go_enter Tryd.func10, Tryd.ntmps10
    go_wp2
    exact bodyPost_ret (v := ints3 1 0 0) (by simp [results, Tryd.results10, go_sem]) rfl
      ⟨rfl, ((Below.refl _ _).alloc (Nat.le_refl _) _).alloc (by simp) _⟩

set_option maxHeartbeats 1000000 in
theorem rcheck_range (ca : Option Addr) (n cc : Nat) (wa : Option Addr) (m wc : Nat) (lk rg : Int) (h1 : 1 ≤ (n : Int) ∧ (n : Int) ≤ 4) (h2 : (m : Int) ≤ 64) (h : lk < 0 ∨ 4 < lk ∨ rg < 1 ∨ 200 < rg) (w : World) :
    Calls Tryd.prog 10 #[prgV ca n cc wa m wc lk rg] w fun e w' => e = .returned (ints3 3 0 0) ∧ Below w.heap.size w w' := by
  rcases (by omega : lk < 0 ∨ (0 ≤ lk ∧ 4 < lk) ∨ ((0 ≤ lk ∧ lk ≤ 4) ∧ rg < 1) ∨ ((0 ≤ lk ∧ lk ≤ 4) ∧ 1 ≤ rg ∧ 200 < rg)) with h3 | h3 | h3 | h3
  all_goals
    clear h
    go_enter Tryd.func10, Tryd.ntmps10
    go_wp2
    exact bodyPost_ret (v := ints3 3 0 0) (by simp [results, Tryd.results10, go_sem]) rfl
      ⟨rfl, ((Below.refl _ _).alloc (Nat.le_refl _) _).alloc (by simp) _⟩

/-- The kinds by their number. -/
def kj (x y z : Int) (k : Nat) : Int := if k = 0 then x else if k = 1 then y else z

theorem ks_spec {op x y z : Int} (h : kd op = some (x, y, z)) :
     (ks op).size ≤ 3 ∧ (∀ k (hk : k < (ks op).size), (1 ≤ kj x y z k ∧ kj x y z k ≤ 5) ∧ ((ks op)[k].toNat : Int) = letter (kj x y z k)) ∧ ∀ k, (ks op).size ≤ k → k < 3 → kj x y z k = 0 := by
  rcases op_cases op with h1 | rfl | rfl | rfl | rfl | rfl | rfl | rfl | rfl | rfl | rfl | rfl | rfl | rfl | rfl | rfl | rfl | rfl | rfl
  · rw [kd_out h1] at h; cases h
  all_goals
    simp only [kd] at h
    simp at h
    obtain ⟨rfl, rfl, rfl⟩ := h
    refine ⟨by decide, ?_, ?_⟩
    · intro k hk
      have hk' : k < 3 := Nat.lt_of_lt_of_le hk (by decide)
      rcases (by omega : k = 0 ∨ k = 1 ∨ k = 2) with rfl | rfl | rfl <;> first | exact absurd hk (by decide) | exact ⟨⟨by decide, by decide⟩, rfl⟩
    · intro k hk hk3
      rcases (by omega : k = 0 ∨ k = 1 ∨ k = 2) with rfl | rfl | rfl <;> first | exact absurd hk (by decide) | decide
end

section
open Go.RowKit

theorem intsV_lenS (l : List Int) : (intsV l).length = l.length := by simp [intsV]
theorem made_intsS (n : Nat) : (madeCells #[Value.int .i64 0] n).toList = List.replicate n (.int .i64 0) := by
  apply List.ext_getElem?
  intro i
  by_cases h : i < n
  · simp [madeCells, h, Nat.mod_one]
  · simp [madeCells, h]
def CpSS (ts : Array TypeId) (ty : TypeId) (args : Array Value) : Sem Value := Builtin.copy_ ts ty args
theorem cpSS_eq (ts : Array TypeId) (ty : TypeId) (args : Array Value) : Builtin.copy_ ts ty args = CpSS ts ty args := rfl
theorem sizeIS : (Tryd.prog.info? 3).map (·.size) = some 1 := by kernel_rfl
theorem intsV_oneS (l : List Int) : ∀ u ∈ intsV l, u.oneCell' = true := fun u hu => by
  simp only [intsV, List.mem_map] at hu
  obtain ⟨x, _, rfl⟩ := hu
  rfl
/-- The first j of k are there. -/
def repS (j k : Nat) : List Value := intsV (List.replicate j (-1) ++ List.replicate (k - j) 0)
theorem repS_len {j k : Nat} (h : j ≤ k) : (repS j k).length = k := by simp [repS, intsV_lenS]; omega
theorem heap_setS {w : World} {g : Nat} {c d : Array Value} {t : TypeId} (h : w.heap[g]? = some (.cells c t (0, 0))) : (w.setRow g d).heap[g]? = some (.cells d t (0, 0)) := by
  unfold World.setRow
  simp only [Array.getElem?_modify, if_true, h, Option.map_some]
theorem heap_setS_ne {w : World} {g k : Nat} {d : Array Value} (h : k ≠ g) : (w.setRow g d).heap[k]? = w.heap[k]? := by
  unfold World.setRow
  simp only [Array.getElem?_modify]
  rw [if_neg (fun e => h e.symm)]
theorem repS_copy {j k c : Nat} (_hj : j ≤ k) (_hc : c ≤ k - j) : ((repS j k).take j ++ intsV (List.replicate c (-1)) ++ (repS j k).drop (j + c)) = repS (j + c) k := by
  have e : repS j k = intsV (List.replicate j (-1)) ++ intsV (List.replicate (k - j) 0) := by simp [repS, intsV]
  rw [e, List.take_append_of_le_length (by simp [intsV_lenS]), List.take_of_length_le (by simp [intsV_lenS]), List.drop_append, List.drop_of_length_le (by simp [intsV_lenS])]
  simp only [intsV_lenS, List.length_replicate, List.nil_append]
  rw [show j + c - j = c by omega]
  simp only [repS, intsV, List.map_append, List.map_replicate, List.drop_replicate, List.replicate_append_replicate]
  rw [show k - j - c = k - (j + c) by omega]
attribute [local go_sem ↓] cpSS_eq
set_option maxRecDepth 100000 in
set_option maxHeartbeats 3200000 in
theorem repeatS (w : World) (xb k : Nat) (hx : w.cell? ⟨xb, 0, none⟩ = some (.int .i64 (-1))) (hk : k ≤ 1000) :
    Calls Tryd.prog 71 #[.slice (some ⟨xb, 0, none⟩) 1 1, .int .i64 (k : Int)] w fun e w' => e = .returned (.slice (some ⟨w.heap.size, 0, none⟩) k k) ∧ w'.heap[w.heap.size]? = some (.cells (intsV (List.replicate k (-1))).toArray 3 (0, 0)) ∧ Below w.heap.size w w' := by
  have hmk := fun W => run_make_row' (P := Tryd.prog) 23 3 (.int .i64 0) 8 Tryd.underlying23 infoI rfl .i64 .i64 k (by omega) (by omega) W
  have hlx := lt_of_cell hx
  obtain ⟨W1, hW1⟩ : ∃ W, W = w.alloc (.cells (madeCells #[.int .i64 0] k) 3) := ⟨_, rfl⟩
  have hh1 : W1.heap[w.heap.size]? = some (.cells (repS 0 k).toArray 3 (0, 0)) := by
    rw [hW1, heap_alloc_new]
    have : madeCells #[Value.int .i64 0] k = (repS 0 k).toArray := by
      rw [← Array.toList_inj, made_intsS]
      simp [repS, intsV]
    rw [this]
  have hx1 : W1.cell? ⟨xb, 0, none⟩ = some (.int .i64 (-1)) := by rw [hW1]; exact cell_up hx _
  have hc1 := run_copy_row (P := Tryd.prog) W1 23 23 3 3 w.heap.size 0 k k ⟨xb, 0, none⟩ 1 1 (repS 0 k).toArray 3 (intsV (List.replicate (min 1 k) (-1))) Tryd.underlying23 sizeIS hh1 (by simp [intsV_lenS, Nat.min_def]) (fun j u hu => by
    have hj : j = 0 := by
      rcases Nat.lt_or_ge j (min 1 k) with h | h
      · omega
      · rw [List.getElem?_eq_none (by simp [intsV_lenS]; omega)] at hu; cases hu
    subst hj
    have hu' : u = .int .i64 (-1) := by
      simp only [intsV, List.map_replicate, List.getElem?_replicate] at hu
      split at hu
      · simpa using hu.symm
      · cases hu
    rw [hu']
    exact hx1) (by simp [intsV_lenS, repS_len (Nat.zero_le k)]; omega) (intsV_oneS _)
  obtain ⟨W2, hW2⟩ : ∃ W, W = W1.setRow w.heap.size ((repS 0 k).toArray.toList.take 0 ++ intsV (List.replicate (min 1 k) (-1)) ++ (repS 0 k).toArray.toList.drop (0 + (intsV (List.replicate (min 1 k) (-1))).length)).toArray := ⟨_, rfl⟩
  rw [← hW2] at hc1
  have hh2 : W2.heap[w.heap.size]? = some (.cells (repS (min 1 k) k).toArray 3 (0, 0)) := by
    rw [hW2, heap_setS hh1]
    have := repS_copy (j := 0) (k := k) (c := min 1 k) (Nat.zero_le _) (by omega)
    simp only [intsV_lenS, List.length_replicate]
    rw [Nat.zero_add] at this ⊢
    rw [← this]
  have hb2 : Below w.heap.size w W2 := by
    rw [hW2, hW1]
    exact ⟨rfl, rfl, rfl, by simp [World.setRow], fun j hj => by rw [heap_setS_ne (by omega), Below.heap_alloc _ _ _ hj]⟩
  have hcl : (intsV (List.replicate (min 1 k) (-1))).length = min 1 k := by simp [intsV_lenS]
  rw [hcl, hW1] at hc1
  have hrun1 : (CpSS #[23, 23] 3 #[.slice (some ⟨w.heap.size, 0, none⟩) k k, .slice (some ⟨xb, 0, none⟩) 1 1]).run Tryd.prog (w.alloc (.cells (madeCells #[.int .i64 0] k) 3)) = .ok (.int .i64 ((min 1 k : Nat) : Int)) W2 := hc1
  have HRND : Hid (∀ wr j, 1 ≤ j → j < k → wr.heap[w.heap.size]? = some (.cells (repS j k).toArray 3 (0, 0)) → Below w.heap.size w wr → ∃ W3, (CpSS #[23, 23] 3 #[.slice (some ⟨w.heap.size, j, none⟩) (k - j) (k - j), .slice (some ⟨w.heap.size, 0, none⟩) j k]).run Tryd.prog wr.drew = .ok (.int .i64 ((min j (k - j) : Nat) : Int)) W3 ∧ W3.heap[w.heap.size]? = some (.cells (repS (j + min j (k - j)) k).toArray 3 (0, 0)) ∧ Below w.heap.size w W3) := fun wr j h1 hj hh hb => by
    have hh' : wr.drew.heap[w.heap.size]? = some (.cells (repS j k).toArray 3 (0, 0)) := hh
    have hc := run_copy_row (P := Tryd.prog) wr.drew 23 23 3 3 w.heap.size j (k - j) (k - j) ⟨w.heap.size, 0, none⟩ j k (repS j k).toArray 3 (intsV (List.replicate (min j (k - j)) (-1))) Tryd.underlying23 sizeIS hh' (by simp [intsV_lenS, Nat.min_def]) (fun p u hu => by
      have hp : p < min j (k - j) := by
        rcases Nat.lt_or_ge p (min j (k - j)) with h | h
        · exact h
        · rw [List.getElem?_eq_none (by simp [intsV_lenS]; omega)] at hu; cases hu
      have hu' : u = .int .i64 (-1) := by
        simp only [intsV, List.map_replicate, List.getElem?_replicate, if_pos hp] at hu
        simpa using hu.symm
      have hadd : (⟨w.heap.size, 0, none⟩ : Addr).add p = ⟨w.heap.size, p, none⟩ := by unfold Addr.add; split <;> simp_all
      rw [hu', hadd, cell_of_row _ _ _ _ _ _ hh']
      have : p < j := by omega
      simp [repS, intsV, List.getElem?_append, this]) (by simp [intsV_lenS, repS_len (Nat.le_of_lt hj)]; omega) (intsV_oneS _)
    have hcl2 : (intsV (List.replicate (min j (k - j)) (-1))).length = min j (k - j) := by simp [intsV_lenS]
    rw [hcl2] at hc
    refine ⟨_, hc, ?_, ?_⟩
    · rw [heap_setS hh']
      have := repS_copy (j := j) (k := k) (c := min j (k - j)) (by omega) (by omega)
      rw [← this]
    · exact ⟨hb.os, hb.tape, hb.output, by simp [World.setRow]; exact hb.size, fun p hp => by rw [heap_setS_ne (by omega)]; exact hb.block p hp⟩
  have HFIN : Hid (repS k k = intsV (List.replicate k (-1))) := by show _ = _; simp [repS]
  have HML : Hid (Calls Tryd.prog 89 #[.int .u64 1, .int .u64 (k : Int)] w fun e w' => e = .returned (.tuple #[.int .u64 0, .int .u64 (k : Int)]) ∧ w' = w) := by
    have := Tryd.bits_Mul 1 k (by omega) (by omega) w
    rw [Nat.one_mul, Nat.div_eq_of_lt (by omega), Nat.mod_eq_of_lt (by omega)] at this
    exact this
  clear hc1 hW2 hW1 hh1 hx1 hcl
  go_enter Tryd.func71, Tryd.ntmps71
  go_wp2_with fail
  refine Calls.mono HML.out ?_
  rintro e w1 ⟨rfl, rfl⟩
  go_wp2_with fail
  go_loopw [8] (fun nv wr => ∃ j : Nat, j ≤ k ∧ (0 < k → 1 ≤ j) ∧ nv = .int .i64 j ∧ Hid (wr.heap[w1.heap.size]? = some (.cells (repS j k).toArray 3 (0, 0)) ∧ Below w1.heap.size w1 wr)) (fun nv _ => k - (intOf nv).toNat)
  case atStart => exact ⟨min 1 k, by omega, by omega, rfl, hh2, hb2⟩
  case round =>
    obtain ⟨j, hj, hj1, rfl, HJ⟩ := hrel
    by_cases hlt : j < k
    · obtain ⟨W3, hrun3, h3, h4⟩ := HRND.out wr j (by omega) hlt HJ.out.1 HJ.out.2
      have HN := Hid.out (p := Hid _) (And.intro h3 h4)
      clear h3 h4
      go_wp2
      go_region
      all_goals go_wp2
      all_goals go_roundw
      case rel => exact ⟨j + min j (k - j), by omega, by omega, by go_num, HN⟩
      case measure => simp [intOf]; omega
    · obtain rfl : j = k := by omega
      go_wp2
      go_ret
      exact ⟨rfl, by rw [← HFIN.out]; exact HJ.out.1, HJ.out.2⟩
end

end Go.Proofs.YtocfocjnnjdcgaaDoor
