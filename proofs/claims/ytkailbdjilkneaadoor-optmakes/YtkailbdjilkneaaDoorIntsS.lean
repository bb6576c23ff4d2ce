/-
  The box of a program that was handed in.
  Orders anew, by the program: what is known of the new program while it is made.
  What the document's Ints does with two lists of the same numbers.
  What the document's Same does with two programs of the same numbers.
  A program and a script that are handed in, opened.
  A state's copy, by the document: its rows, one behind the other.
-/
import Derived.Test.YtkailbdjilkneaaDoorInProg
import Derived.Test.YtkailbdjilkneaaDoorPlain
import Derived.Test.YtkailbdjilkneaaDoorFLead
import Derived.Test.YtkailbdjilkneaaDoorAppB
import Derived.Test.YtkailbdjilkneaaDoorCOkP
import Derived.Deep.QuietTactic
import Derived.BigQuiet
import Derived.BigRegion
import Derived.StillTailTactics
namespace Go.Proofs.YtkailbdjilkneaaDoor
section
open Go.RowKit

theorem box_lt {w : World} {g : Nat} {o : Obj} (h : w.heap[g]? = some o) : g < w.heap.size := by
  rcases Nat.lt_or_ge g w.heap.size with h1 | h1
  · exact h1
  · rw [Array.getElem?_eq_none h1] at h; cases h

theorem heap_set_same {w : World} {g i : Nat} {cs : Array Value} {t : TypeId} {u : Value} (h : w.heap[g]? = some (.cells cs t)) : (w.setCell ⟨g, i, none⟩ u).heap[g]? = some (.cells (cs.setIfInBounds i u) t) := by
  simp only [World.setCell, Array.getElem?_modify, if_true, h, Option.map_some]
  rfl

theorem own_type {w : World} {B : Nat} {e t : TypeId} {size : Nat} {v : Value} {n g : Nat} {xs : List Value} {c : Array Value} (h : w.ownsRow B e size v n xs) (hg : w.heap[g]? = some (.cells c t (0, 0))) (hne : e ≠ t) : v.ownBlock ≠ some g := fun e1 => by
  rcases h.2 with ⟨h0, _⟩ | ⟨g', cap, cur, hv, _, hh, _⟩
  · rw [h0] at e1; simp [Value.ownBlock] at e1
  · rw [hv] at e1
    have e2 : g' = g := by simpa [Value.ownBlock] using e1
    subst e2
    rw [hh] at hg
    simp only [Option.some.injEq, Obj.cells.injEq] at hg
    exact hne hg.2.1
end

section
open Go.RowKit

/-- What is known while a thread's orders are made: from the world S on. j orders, i places. -/
structure InI (S : World) (b : Nat → List I4) (j i : Nat) (W : World) (cv pv : Value) : Prop where
  low : Below S.heap.size S W
  code : OwnC W S.heap.size cv (rawR b j)
  pls : W.ownsRow S.heap.size 3 1 pv i (intsV ((List.range i).map fun k => (plR b k : Int)))
  apart : ∀ g, cv.ownBlock = some g → pv.ownBlock ≠ some g
section
variable {S W : World} {b : Nat → List I4} {j i : Nat} {cv pv : Value}
theorem InI.start (S : World) (b : Nat → List I4) : InI S b 0 0 S nilV nilV := ⟨Below.refl _ _, World.ownsRow_nil _ _ _ _, World.ownsRow_nil _ _ _ _, fun g h => by simp [Value.ownBlock] at h⟩
theorem InI.below (h : InI S b j i W cv pv) {W' : World} (hb : Below W.heap.size W W') : InI S b j i W' cv pv := ⟨h.low.trans (hb.mono h.low.size), h.code.below hb, owns_below2 h.pls hb, h.apart⟩
/-- One place more. -/
theorem InI.place (h : InI S b j i W cv pv) {V : World} (hb : Below W.heap.size W V) {q : Nat} (hq : q = plR b i) (hi : i ≤ 1000) :
    ∃ g cap w3, (AppS #[23, 23] 23 #[pv, .slice (some ⟨V.heap.size, 0, none⟩) 1 1]).run Tryd.prog (V.alloc (.cells #[.int .i64 q] 3)) = .ok (.slice (some ⟨g, 0, none⟩) (i + 1) cap) w3 ∧ InI S b j (i + 1) w3 cv (.slice (some ⟨g, 0, none⟩) (i + 1) cap) ∧ Below S.heap.size S w3 := by
  have h0 := h.below hb
  obtain ⟨g, cap, w3, r1, r2, r3, r4⟩ := app_row (T := 23) Tryd.underlying23 infoI rfl (by omega) h0.pls (Below.refl _ V) h0.low.size 1 #[.int .i64 q] rfl (by simp [Value.oneCell']) (by omega) (by omega) (by omega)
  have hl := h0.low.size
  have hlow : Below S.heap.size S w3 := (h0.low.alloc hl _).grown r3 (by simp; omega) (fun k hk => by have := (h0.pls.lt k hk).1; omega)
  refine ⟨g, cap, w3, r1, ⟨hlow, ?_, ?_, fun k hk => ?_⟩, hlow⟩
  · exact own_grown (show (V.alloc (.cells #[.int .i64 q] 3)).ownsRow _ _ _ _ _ _ from owns_below2 h0.code ((Below.refl _ _).alloc (Nat.le_refl _) _)) r3 (fun k hk e => h0.apart k hk e)
  · have e : intsV ((List.range (i + 1)).map fun k => (plR b k : Int)) = intsV ((List.range i).map fun k => (plR b k : Int)) ++ [.int .i64 q] := by
      rw [List.range_succ, List.map_append, hq]
      simp [intsV]
    rw [e]
    exact r2
  · intro e
    have eg : g = k := by simpa [Value.ownBlock] using e
    subst eg
    rcases r4 with r4 | r4
    · exact h0.apart g hk r4
    · have := (h0.code.lt g hk).2
      omega
/-- More orders. -/
theorem InI.more (h : InI S b j i W cv pv) {V : World} (hb : Below W.heap.size W V) (sa : Option Addr) (c : Nat) (hs : SrcL V sa (cellsT (b j))) (hl : plR b j + (b j).length ≤ 1000000) :
    ∃ v w3, (AppS #[45, 45] 45 #[cv, .slice sa (b j).length c]).run Tryd.prog V = .ok v w3 ∧ InI S b (j + 1) i w3 v pv ∧ Below S.heap.size S w3 := by
  have h0 := h.below hb
  obtain ⟨v, w3, r1, r2, r3, r4⟩ := app_code h0.code h0.low.size sa c (b j) hs (by rw [raw_len]; exact hl)
  have hlow : Below S.heap.size S w3 := h0.low.grown r3 h0.low.size (fun k hk => (h0.code.lt k hk).1)
  refine ⟨v, w3, r1, ⟨hlow, r2, own_grown h0.pls r3 (fun g e1 e2 => h0.apart g e2 e1), fun g e1 e2 => ?_⟩, hlow⟩
  rcases r4 with r4 | r4
  · exact h0.apart g (by rw [← r4]; exact e1) e2
  · rw [r4] at e1
    have := (h0.pls.lt g e2).2
    have : V.heap.size = g := by simpa using e1
    omega
/-- The places lie there. -/
theorem InI.sis (h : InI S b j i W cv pv) {a : Option Addr} {c : Nat} (hv : pv = .slice a i c) : SIs W a ((List.range i).map fun k => (plR b k : Int)) := fun k hk => by
  have hk' : k < i := by simpa using hk
  obtain ⟨g, cap, e, hg, _⟩ := fam_block h.pls (by omega)
  rw [hv] at e
  simp only [Value.slice.injEq] at e
  refine ⟨g, 0, e.1, ?_⟩
  have := fam_cell h.pls hg (intsV_at (l := (List.range i).map fun k => (plR b k : Int)) hk)
  rw [Nat.zero_add]
  exact this
end
/-- What is known of the new program while it is made: from the world S on, its box at qb, k threads. -/
structure RwI (S : World) (qb : Nat) (uv : Value) (words : List Int) (lk rg : Int) (b : Nat → Nat → List I4) (L : Nat → Nat) (k : Nat) (W : World) (cv : Value) (tv : List Value) : Prop where
  low : Below S.heap.size S W
  hq : S.heap.size ≤ qb
  box : W.heap[qb]? = some (.cells #[cv, uv, .int .i64 lk, .int .i64 rg] 25)
  words : W.ownsRow S.heap.size 3 1 uv words.length (intsV words)
  wq : uv.ownBlock ≠ some qb
  code : W.ownsRow S.heap.size 45 1 cv k tv
  cq : cv.ownBlock ≠ some qb
  cw : ∀ g, uv.ownBlock = some g → cv.ownBlock ≠ some g
  thr : ∀ t, t < k → OwnC W S.heap.size (tv.getD t nilV) (codeR (b t) (L t)) ∧ ∀ g, (tv.getD t nilV).ownBlock = some g → g ≠ qb ∧ cv.ownBlock ≠ some g
section
variable {S W : World} {qb : Nat} {uv cv : Value} {words : List Int} {lk rg : Int} {b : Nat → Nat → List I4} {L : Nat → Nat} {k : Nat} {tv : List Value}
theorem RwI.below (h : RwI S qb uv words lk rg b L k W cv tv) {W' : World} (hb : Below W.heap.size W W') : RwI S qb uv words lk rg b L k W' cv tv :=
  ⟨h.low.trans (hb.mono h.low.size), h.hq, (hb.block _ (box_lt h.box)).trans h.box, owns_below2 h.words hb, h.wq, owns_below2 h.code hb, h.cq, h.cw, fun t ht => ⟨(h.thr t ht).1.below hb, (h.thr t ht).2⟩⟩
/-- One thread more. -/
theorem RwI.push (h : RwI S qb uv words lk rg b L k W cv tv) {V : World} (hb : Below W.heap.size W V) {v : Value} {T : Nat} (hT : W.heap.size ≤ T) (hv : OwnC V T v (codeR (b k) (L k))) (hk : k ≤ 1000) :
    ∃ g cap w3, (AppS #[22, 22] 22 #[cv, .slice (some ⟨V.heap.size, 0, none⟩) 1 1]).run Tryd.prog (V.alloc (.cells #[v] 45)) = .ok (.slice (some ⟨g, 0, none⟩) (k + 1) cap) w3 ∧ w3.heap[qb]? = some (.cells #[cv, uv, .int .i64 lk, .int .i64 rg] 25) ∧ Below S.heap.size S w3 ∧
      RwI S qb uv words lk rg b L (k + 1) (w3.setCell ⟨qb, 0, none⟩ (.slice (some ⟨g, 0, none⟩) (k + 1) cap)) (.slice (some ⟨g, 0, none⟩) (k + 1) cap) (tv ++ [v]) := by
  have h0 := h.below hb
  have hl := h0.low.size
  have hwq : qb < W.heap.size := box_lt h.box
  have hone : v.oneCell' = true := by
    rcases hv.2 with ⟨rfl, _⟩ | ⟨g, cap, cur, rfl, _⟩ <;> rfl
  obtain ⟨g, cap, w3, r1, r2, r3, r4⟩ := app_row (T := 22) Tryd.underlying22 infoOs rfl (by omega) h0.code (Below.refl _ V) hl 1 #[v] rfl (by simp [hone]) (by omega) (by omega) (by omega)
  have hbA : Below V.heap.size V (V.alloc (.cells #[v] 45)) := (Below.refl _ _).alloc (Nat.le_refl _) _
  have hlow : Below S.heap.size S w3 := (h0.low.alloc hl _).grown r3 (by simp; omega) (fun q hq => (h0.code.lt q hq).1)
  have hq3 : w3.heap[qb]? = some (.cells #[cv, uv, .int .i64 lk, .int .i64 rg] 25) := by
    rw [grown_block r3 (by simp; have := box_lt h0.box; omega) h0.cq]
    exact (hbA.block _ (box_lt h0.box)).trans h0.box
  have hgq : g ≠ qb := fun e => by
    rcases r4 with r4 | r4
    · exact h0.cq (by rw [r4, e])
    · have := box_lt h0.box
      omega
  have hold : ∀ x, x < V.heap.size → cv.ownBlock ≠ some x → x ≠ g := fun x hx hne e => by
    rcases r4 with r4 | r4
    · exact hne (by rw [r4, e])
    · omega
  have htl : tv.length = k := by have := h.code.1; omega
  refine ⟨g, cap, w3, r1, hq3, hlow, ⟨hlow.setCell h.hq _, h.hq, ?_, ?_, h.wq, ?_, ?_, fun x hx e => ?_, fun t ht => ?_⟩⟩
  · rw [heap_set_same hq3]
    rfl
  · exact owns_far (own_grown (owns_below2 h0.words hbA) r3 (fun x hx => h0.cw x hx)) h.wq
  · refine owns_far r2 ?_
    simp only [Value.ownBlock]
    exact fun e => hgq (by simpa using e)
  · simp only [Value.ownBlock]
    exact fun e => hgq (by simpa using e)
  · have : g = x := by simpa [Value.ownBlock] using e
    exact hold x (h0.words.lt x hx).2 (h0.cw x hx) this.symm
  · by_cases e : t = k
    · subst e
      have e1 : (tv ++ [v]).getD t nilV = v := by simp [List.getD, ← htl]
      rw [e1]
      have hvq : ∀ x, v.ownBlock = some x → x ≠ qb ∧ x < V.heap.size ∧ cv.ownBlock ≠ some x := fun x hx => by
        have h1 := hv.lt x hx
        refine ⟨by omega, h1.2, fun e2 => ?_⟩
        have := (h.code.lt x e2).2
        omega
      refine ⟨owns_far (own_grown (owns_below2 (own_low hv (by have := h.low.size; omega)) hbA) r3 (fun x hx => (hvq x hx).2.2)) (fun e2 => (hvq qb e2).1 rfl), fun x hx => ⟨(hvq x hx).1, fun e2 => ?_⟩⟩
      have : g = x := by simpa [Value.ownBlock] using e2
      exact hold x (hvq x hx).2.1 (hvq x hx).2.2 this.symm
    · have ht' : t < k := by omega
      have e1 : (tv ++ [v]).getD t nilV = tv.getD t nilV := by simp [List.getD, List.getElem?_append_left (show t < tv.length by omega)]
      rw [e1]
      have h1 := h0.thr t ht'
      refine ⟨owns_far (own_grown (owns_below2 h1.1 hbA) r3 (fun x hx => (h1.2 x hx).2)) (fun e2 => (h1.2 qb e2).1 rfl), fun x hx => ⟨(h1.2 x hx).1, fun e2 => ?_⟩⟩
      have : g = x := by simpa [Value.ownBlock] using e2
      exact hold x (h1.1.lt x hx).2 (h1.2 x hx).2 this.symm
end
end

section
open Go.RowKit

/-- A list of numbers lies in w. -/
def IIn (w : World) (a : Option Addr) (n : Nat) (X : Nat → Int) : Prop := ∀ i, i < n → ∃ b o, a = some ⟨b, o, none⟩ ∧ w.cell? ⟨b, o + i, none⟩ = some (.int .i64 (X i))
theorem IIn.below {w w' : World} {a : Option Addr} {n : Nat} {X : Nat → Int} (h : IIn w a n X) (hb : Below w.heap.size w w') : IIn w' a n X := fun i hi => by
  obtain ⟨b, o, hc, h1⟩ := h i hi
  exact ⟨b, o, hc, (hb.cell (lt_of_cell h1)).trans h1⟩

set_option maxHeartbeats 800000 in
theorem ints_same (a a' : Option Addr) (n c c' : Nat) (hn : n ≤ 9223372036854775807) (X : Nat → Int) (w : World) (h : IIn w a n X) (h' : IIn w a' n X) :
    Calls Tryd.prog 42 #[.slice a n c, .slice a' n c'] w fun e w' => e = .returned (.bool true) ∧ Below w.heap.size w w' := by
  go_enter Tryd.func42, Tryd.ntmps42
  go_wp2
  go_loopw [5] (fun i wr => ∃ k : Nat, k ≤ n ∧ i = .int .i64 k ∧ Below w.heap.size w wr) (fun i _ => n - (intOf i).toNat)
  case atStart => exact ⟨0, Nat.zero_le _, rfl, Below.refl _ _⟩
  case round =>
    obtain ⟨k, hk, rfl, hbr⟩ := hrel
    by_cases hlt : k < n
    · obtain ⟨b, o, rfl, hc⟩ := h.below hbr k hlt
      obtain ⟨b', o', rfl, hc'⟩ := h'.below hbr k hlt
      go_wp2
      go_region
      all_goals go_wp2
      all_goals go_roundw
      case rel => exact ⟨k + 1, by omega, by go_num, hbr.drew⟩
      case measure => simp [intOf]; omega
    · go_wp2
      go_ret
      exact ⟨rfl, hbr⟩
end

section
open Go.RowKit

abbrev boxP (ca : Option Addr) (n cc : Nat) (wa : Option Addr) (m wc : Nat) (lk rg : Int) : Obj := .cells #[.slice ca n cc, .slice wa m wc, .int .i64 lk, .int .i64 rg] 25

set_option maxRecDepth 100000 in
set_option maxHeartbeats 3200000 in
theorem same_any (ca : Option Addr) (n cc : Nat) (wa : Option Addr) (m wc : Nat) (lk rg : Int) (A : Nat → Option Addr) (L C : Nat → Nat) (X : Nat → Nat → Nat → Int) (ca' : Option Addr) (cc' : Nat) (wa' : Option Addr) (wc' : Nat) (A' : Nat → Option Addr) (C' : Nat → Nat) (Y : Nat → Int) (hm : m ≤ 9223372036854775807) (w : World)
    (hp : PIn w ca n A L C X) (hp' : PIn w ca' n A' L C' X) (hi : IIn w wa m Y) (hi' : IIn w wa' m Y) :
    Calls Tryd.prog 16 #[prgV ca n cc wa m wc lk rg, prgV ca' n cc' wa' m wc' lk rg] w fun e w' => e = .returned (.bool true) ∧ Below w.heap.size w w' := by
  have hn := hp.num
  have HB0 : Below w.heap.size w ((w.alloc (boxP ca n cc wa m wc lk rg)).alloc (boxP ca' n cc' wa' m wc' lk rg)) := ((Below.refl _ _).alloc (Nat.le_refl _) _).alloc (by simp) _
  have hj := hi.below HB0
  have hj' := hi'.below HB0
  go_enter Tryd.func16, Tryd.ntmps16
  go_wp2_with (first | (go_at_call 42; refine (ints_same wa wa' m wc wc' hm Y _ hj hj').mono ?_; rintro e w1 ⟨rfl, hb1⟩; have p0 : w1.cell? ⟨w.heap.size, 0, none⟩ = some (.slice ca n cc) := (hb1.cell (p := ⟨w.heap.size, 0, none⟩) (by simp; omega)).trans (by go_simp); have p2 : w1.cell? ⟨w.heap.size, 2, none⟩ = some (.int .i64 lk) := (hb1.cell (p := ⟨w.heap.size, 2, none⟩) (by simp; omega)).trans (by go_simp); have p3 : w1.cell? ⟨w.heap.size, 3, none⟩ = some (.int .i64 rg) := (hb1.cell (p := ⟨w.heap.size, 3, none⟩) (by simp; omega)).trans (by go_simp); have q0 : w1.cell? ⟨w.heap.size + 1, 0, none⟩ = some (.slice ca' n cc') := (hb1.cell (p := ⟨w.heap.size + 1, 0, none⟩) (by simp)).trans (by go_simp); have q2 : w1.cell? ⟨w.heap.size + 1, 2, none⟩ = some (.int .i64 lk) := (hb1.cell (p := ⟨w.heap.size + 1, 2, none⟩) (by simp)).trans (by go_simp); have q3 : w1.cell? ⟨w.heap.size + 1, 3, none⟩ = some (.int .i64 rg) := (hb1.cell (p := ⟨w.heap.size + 1, 3, none⟩) (by simp)).trans (by go_simp)))
  have HB1 : Below w.heap.size w w1 := HB0.trans (hb1.mono HB0.size)
  clear hb1 hj hj' HB0 p2 p3 q2 q3 hi hi'
  go_loopw [6] (fun i wr => ∃ k : Nat, k ≤ n ∧ i = .int .i64 k ∧ Below w1.heap.size w1 wr) (fun i _ => n - (intOf i).toNat)
  case atStart => exact ⟨0, Nat.zero_le _, rfl, Below.refl _ _⟩
  case round =>
    obtain ⟨k, hk, rfl, hbr⟩ := hrel
    have HBr : Below w.heap.size w wr := HB1.trans (hbr.mono HB1.size)
    have p0r := (hbr.cell (lt_of_cell p0)).trans p0
    have q0r := (hbr.cell (lt_of_cell q0)).trans q0
    by_cases hlt : k < n
    · obtain ⟨cb, co, rfl, hc⟩ := (hp.below HBr).code k hlt
      obtain ⟨cb', co', rfl, hc'⟩ := (hp'.below HBr).code k hlt
      have hl := hp.len k hlt
      go_wp2
      go_region
      all_goals go_wp2
      go_loopw [7] (fun i wi => ∃ j : Nat, j ≤ L k ∧ i = .int .i64 j ∧ Below w1.heap.size w1 wi) (fun i _ => L k - (intOf i).toNat)
      case atStart => exact ⟨0, Nat.zero_le _, rfl, hbr.drew⟩
      case round =>
        obtain ⟨j, hj, rfl, hbi⟩ := hrel
        clear hc hc' p0r q0r HBr hbr
        have HBi : Below w.heap.size w wr := HB1.trans (hbi.mono HB1.size)
        have p0i := (hbi.cell (lt_of_cell p0)).trans p0
        have q0i := (hbi.cell (lt_of_cell q0)).trans q0
        obtain ⟨_, _, e0, hc⟩ := (hp.below HBi).code k hlt
        obtain ⟨_, _, e1, hc'⟩ := (hp'.below HBi).code k hlt
        simp only [Option.some.injEq, Addr.mk.injEq, and_true] at e0 e1
        obtain ⟨rfl, rfl⟩ := e0
        obtain ⟨rfl, rfl⟩ := e1
        by_cases hjl : j < L k
        · obtain ⟨ob, oo, ha, x0, x1, x2, x3⟩ := (hp.below HBi).ord k j hlt hjl
          obtain ⟨ob', oo', ha', y0, y1, y2, y3⟩ := (hp'.below HBi).ord k j hlt hjl
          rw [ha] at hc
          rw [ha'] at hc'
          have a0 := fun o => (World.cell?_alloc_lt wr o _ (lt_of_cell q0i)).trans q0i
          have a1 := fun o => (World.cell?_alloc_lt wr o _ (lt_of_cell hc')).trans hc'
          have a2 := fun o => (World.cell?_alloc_lt wr o _ (lt_of_cell y0)).trans y0
          have a3 := fun o => (World.cell?_alloc_lt wr o _ (lt_of_cell y1)).trans y1
          have a4 := fun o => (World.cell?_alloc_lt wr o _ (lt_of_cell y2)).trans y2
          have a5 := fun o => (World.cell?_alloc_lt wr o _ (lt_of_cell y3)).trans y3
          go_wp2
          go_roundw
          case rel => exact ⟨j + 1, by omega, by go_num, (hbi.alloc hbi.size _).alloc (by have := hbi.size; simp; omega) _⟩
          case measure => simp [intOf]; omega
        · go_wp2
          go_roundw
          case rel => exact ⟨k + 1, by omega, by go_num, hbi⟩
          case measure => simp [intOf]; omega
    · go_wp2
      go_ret
      exact ⟨rfl, HBr⟩
end

section
open Go.ChangeShapes Go.WideShapes Go.ChangeAt Go.RowKit Go.Joins Go.Deep

theorem Tryd.own : ownKnob Tryd.prog.godebug = none := by kernel_rfl
theorem Tryd.laidOut : laidOutB Tryd.prog = true := by kernel_rfl
theorem Tryd.readableP : Tryd.prog.readableRec 25 = true := by kernel_rfl
theorem Tryd.readableI : Tryd.prog.readableRec 23 = true := by kernel_rfl

/-- A list of numbers that is handed in, opened. -/
theorem open_ints {H : Type} {enc : TypeId × Value → H} {W : World} {fuel : Nat} {v : Value} {x : DataW H × List MemPlace} (h : DataW.trod enc Tryd.prog W 0 (fun _ => true) true fuel 23 [v] = some x) :
    ∃ (sa : Option Addr) (xs : List Int) (sc : Nat), v = .slice sa xs.length sc ∧ xs.length ≤ sc ∧ sc ≤ maxLen ∧ SIs W sa xs ∧ (sa = none → xs = [] ∧ sc = 0) := by
  rcases open_slice1 Tryd.underlying23 cells3 h with ⟨hcs, _⟩ | ⟨a, len, cap, _, _, V, _, _, hcs, _, hl, hm, hmm, _, hx⟩
  · simp at hcs
    subst hcs
    exact ⟨none, [], 0, rfl, by simp, by simp, fun i hi => absurd hi (Nat.not_lt_zero _), fun _ => ⟨rfl, rfl⟩⟩
  · simp at hcs hmm
    subst hcs
    obtain ⟨Y, hY⟩ := choose_lt (α := Int) (p := fun i (y : Int) => W.cell? (a.add i) = some (.int .i64 y)) (n := len) (fun i hi => by
      obtain ⟨x1, x2⟩ := hx i (by omega)
      obtain ⟨y, e, _, _⟩ := DataW.trod_int Tryd.underlying3 x2
      simp at e
      exact ⟨y, by rw [x1, e]⟩)
    have hlen : ((List.range len).map Y).length = len := by simp
    refine ⟨some a, (List.range len).map Y, cap, by rw [hlen], by rw [hlen]; exact hl, hm, fun i hi => ?_, fun e => by cases e⟩
    rw [hlen] at hi
    obtain ⟨b, o, sp⟩ := a
    have hsp : sp = none := by simpa [Addr.add] using World.cell?_spot (hY 0 (by omega))
    subst hsp
    refine ⟨b, o, rfl, ?_⟩
    rw [← Go.WideShapes.add_plain, hY i hi]
    simp [List.getD, hi]

set_option maxRecDepth 100000 in
/-- A program that is handed in, opened. -/
theorem open_prog2 {H : Type} {enc : TypeId × Value → H} {W : World} {b0 : Nat} {v : Value} {d : DataW H} {p : List MemPlace} (hv : Value.okWide Tryd.prog W .any b0 25 v) (h : DataW.Trod enc Tryd.prog W 0 (fun _ => true) true 25 v d p) :
    ∃ (ca : Option Addr) (n cc : Nat) (wa : Option Addr) (words : List Int) (wc : Nat) (lk rg : Int) (A : Nat → Option Addr) (L C : Nat → Nat) (X : Nat → Nat → Nat → Int), v = prgV ca n cc wa words.length wc lk rg ∧ words.length ≤ 9223372036854775807 ∧ PIn W ca n A L C X ∧ SIs W wa words ∧ (wa = none → words = [] ∧ wc = 0) := by
  obtain ⟨c0, c1, c2, c3, y0, y1, y2, y3, m, rfl, _, _, h0, h1, h2, h3⟩ := open_agg4 Tryd.underlying25 (by kernel_rfl) cells25 hv h
  obtain ⟨ca, n, cc, A, L, C, X, rfl, hp, _⟩ := read_code h0
  obtain ⟨lk, e2, _, _⟩ := DataW.trod_int Tryd.underlying3 h2
  obtain ⟨rg, e3, _, _⟩ := DataW.trod_int Tryd.underlying3 h3
  simp at e2 e3
  subst e2 e3
  obtain ⟨wa, words, wc, rfl, hl, hm, hs, hn⟩ := open_ints h1
  exact ⟨ca, n, cc, wa, words, wc, lk, rg, A, L, C, X, rfl, by unfold maxLen at hm; omega, hp, hs, hn⟩
end

section
open Go.RowKit

section
variable {w w1 : World} {B : Nat} {P : Pg} {sb : Nat} {v : Rl → Value} {s : Sx}
end

theorem keep_grown {W w3 : World} {d : Nat} {o : Obj} (hg : (W.alloc o).grownBy w3 (some d)) (hd : d = W.heap.size) : Below W.heap.size W w3 :=
  ⟨hg.os, hg.tape, hg.output, by have := hg.size; simp at this; omega, fun k hk => (hg.block k (by simp; omega) (fun e => by simp at e; omega)).trans (by have := ((Below.refl W.heap.size W).alloc (Nat.le_refl _) o).block k hk; exact this)⟩
attribute [local go_sem ↓] appS_eq
end

end Go.Proofs.YtkailbdjilkneaaDoor
