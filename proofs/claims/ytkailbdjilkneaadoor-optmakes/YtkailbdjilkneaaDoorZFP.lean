/-
  Orders anew, by the document: places, and what orders become, in memory.
  Fences that are put and taken away, by the document: what orders become, in memory.
-/
import Derived.Test.YtkailbdjilkneaaDoorIntsS
import Derived.Test.YtkailbdjilkneaaDoorCOkP
import Derived.Test.YtkailbdjilkneaaDoorInProg
import Derived.Test.YtkailbdjilkneaaDoorAppB
import Derived.Deep.QuietTactic
import Derived.BigQuiet
import Derived.BigRegion
import Derived.StillTailTactics
import Derived.Laws.OwnMore
import Derived.Test.YtkailbdjilkneaaDoorNewC
namespace Go.Proofs.YtkailbdjilkneaaDoor
section
open Go.RowKit

/-! Put: the new places. -/
/-- The places so far. -/
def pcsL (b : Nat → List I4) (l j : Nat) : List Int := (List.range (l + 1)).map fun i => if i < j then (plR b i : Int) else 0
theorem pcs_len (b : Nat → List I4) (l j : Nat) : (pcsL b l j).length = l + 1 := by simp [pcsL]
theorem pcs_at {b : Nat → List I4} {l j i : Nat} (hi : i < l + 1) : (pcsL b l j).getD i 0 = if i < j then (plR b i : Int) else 0 := by simp [pcsL, List.getD, hi]
theorem pcs_set {b : Nat → List I4} {l j : Nat} : (pcsL b l j).set j (plR b j : Int) = pcsL b l (j + 1) := by
  apply List.ext_getElem?
  intro i
  by_cases hi : i < l + 1
  · by_cases e : j = i
    · subst e
      rw [List.getElem?_set_self (by rw [pcs_len]; exact hi)]
      simp [pcsL, hi]
    · rw [List.getElem?_set_ne e]
      simp only [pcsL, List.getElem?_map, List.getElem?_range hi, Option.map_some]
      congr 1
      by_cases h : i < j
      · rw [if_pos h, if_pos (by omega)]
      · rw [if_neg h, if_neg (by omega)]
  · rw [List.getElem?_eq_none (by simp [pcs_len]; omega), List.getElem?_eq_none (by rw [pcs_len]; omega)]
theorem made_ints6 (n : Nat) : (madeCells #[Value.int .i64 0] n).toList = intsV (List.replicate n 0) := by
  apply List.ext_getElem?
  intro i
  simp only [madeCells, intsV]
  by_cases h : i < n
  · simp [h, Nat.mod_one]
  · simp [h]
theorem put_start (w : World) (b : Nat → List I4) (l : Nat) (hl : l ≤ 1000) : ∃ w1, (Instr.makeSlice 23 (.int .i64 ((l : Int) + 1)) (.int .i64 ((l : Int) + 1))).run Tryd.prog w = .ok (.slice (some ⟨w.heap.size, 0, none⟩) (l + 1) (l + 1)) w1 ∧ w1.ownsRow w.heap.size 3 1 (.slice (some ⟨w.heap.size, 0, none⟩) (l + 1) (l + 1)) (l + 1) (intsV (pcsL b l 0)) ∧ Below w.heap.size w w1 := by
  obtain ⟨i, hi, hz0, hz1, hz2⟩ := info_is infoI
  obtain ⟨w1, r1, r2, r3⟩ := run_makeSlice_full (P := Tryd.prog) w w.heap.size 23 3 i (.int .i64 0) 1 Tryd.underlying23 hi hz0 hz1 .i64 .i64 (l + 1) (by omega) (by rw [hz2]; omega) (by unfold maxLen; omega) (Nat.le_refl _)
  have hlow : Below w.heap.size w w1 := (Below.refl _ _).grown r3 (Nat.le_refl _) (fun k hk => by cases hk)
  refine ⟨w1, by simpa using r1, ?_, hlow⟩
  rw [Nat.mul_one] at r2
  have e : (Value.int .i64 0).cells = #[Value.int .i64 0] := rfl
  have e2 : pcsL b l 0 = List.replicate (l + 1) 0 := by
    apply List.ext_getElem?
    intro i
    by_cases h : i < l + 1
    · simp [pcsL, h]
    · rw [List.getElem?_eq_none (by rw [pcs_len]; omega), List.getElem?_eq_none (by simp; omega)]
  rw [e, made_ints6] at r2
  rw [e2]
  exact r2
/-- What an order becomes lies in memory. -/
def BeIn (w : World) (ba : Option Addr) (l : Nat) (b : Nat → List I4) : Prop := ∀ i, i < l → ∃ g o sa c, ba = some ⟨g, o, none⟩ ∧ w.cell? ⟨g, o + i, none⟩ = some (.slice sa (b i).length c) ∧ SrcL w sa (cellsT (b i))
theorem BeIn.below {w w' : World} {ba : Option Addr} {l : Nat} {b : Nat → List I4} (h : BeIn w ba l b) (hb : Below w.heap.size w w') : BeIn w' ba l b := fun i hi => by
  obtain ⟨g, o, sa, c, h1, h2, h3⟩ := h i hi
  exact ⟨g, o, sa, c, h1, (hb.cell (lt_of_cell h2)).trans h2, h3.below hb⟩
theorem srcL_order {w : World} {sa : Option Addr} {r : List I4} {k : Nat} (h : SrcL w sa (cellsT r)) (hk : k < r.length) (d : I4) : ∃ g o, sa = some ⟨g, o, none⟩ ∧ w.cell? ⟨g, o + k * 4, none⟩ = some (.int .i64 (r.getD k d).1) ∧ w.cell? ⟨g, o + k * 4 + 1, none⟩ = some (.int .i64 (r.getD k d).2.1) ∧ w.cell? ⟨g, o + k * 4 + 2, none⟩ = some (.int .i64 (r.getD k d).2.2.1) ∧ w.cell? ⟨g, o + k * 4 + 3, none⟩ = some (.int .i64 (r.getD k d).2.2.2) := by
  obtain ⟨y0, y1, y2, y3⟩ := cellsT_at hk d
  obtain ⟨g, o, e, h0⟩ := h _ _ y0
  obtain ⟨g1, o1, e1, h1⟩ := h _ _ y1
  obtain ⟨g2, o2, e2, h2⟩ := h _ _ y2
  obtain ⟨g3, o3, e3, h3⟩ := h _ _ y3
  rw [e] at e1 e2 e3
  simp only [Option.some.injEq, Addr.mk.injEq, and_true] at e1 e2 e3
  obtain ⟨rfl, rfl⟩ := e1
  obtain ⟨rfl, rfl⟩ := e2
  obtain ⟨rfl, rfl⟩ := e3
  exact ⟨g, o, e, h0, h1, h2, h3⟩
/-- What is known while the new orders are made. i orders of which q are j's: what lies there. -/
structure PuI (S : World) (b : Nat → List I4) (l : Nat) (W : World) (ov : Value) (r : List I4) : Prop where
  low : Below S.heap.size S W
  pls : W.ownsRow S.heap.size 3 1 (.slice (some ⟨S.heap.size, 0, none⟩) (l + 1) (l + 1)) (l + 1) (intsV (pcsL b l (l + 1)))
  out : OwnC W S.heap.size ov r
theorem PuI.push {S W V : World} {b : Nat → List I4} {l : Nat} {ov : Value} {r : List I4} (h : PuI S b l W ov r) (hb : Below W.heap.size W V) (x : I4) (hr : r.length ≤ 100000) :
    ∃ g cap w3, (AppS #[45, 45] 45 #[ov, .slice (some ⟨V.heap.size, 0, none⟩) 1 1]).run Tryd.prog (V.alloc (.cells #[.int .i64 x.1, .int .i64 x.2.1, .int .i64 x.2.2.1, .int .i64 x.2.2.2] 44)) = .ok (.slice (some ⟨g, 0, none⟩) (r.length + 1) cap) w3 ∧ PuI S b l w3 (.slice (some ⟨g, 0, none⟩) (r.length + 1) cap) (r ++ [x]) := by
  have h0 : PuI S b l V ov r := ⟨h.low.trans (hb.mono h.low.size), owns_below2 h.pls hb, h.out.below hb⟩
  have hl := h0.low.size
  obtain ⟨g, cap, w3, r1, r2, r3, r4⟩ := app_row (T := 45) Tryd.underlying45 infoO rfl (by omega) h0.out (Below.refl _ V) hl 1 #[.int .i64 x.1, .int .i64 x.2.1, .int .i64 x.2.2.1, .int .i64 x.2.2.2] rfl (by simp [Value.oneCell']) (by omega) (by omega) (by omega)
  have hbA : Below V.heap.size V (V.alloc (.cells #[.int .i64 x.1, .int .i64 x.2.1, .int .i64 x.2.2.1, .int .i64 x.2.2.2] 44)) := (Below.refl _ _).alloc (Nat.le_refl _) _
  have hp := owns_below2 h0.pls hbA
  have ho := owns_below2 h0.out hbA
  refine ⟨g, cap, w3, r1, ⟨(h0.low.alloc hl _).grown r3 (by simp; omega) (fun q hq => (h0.out.lt q hq).1), own_grown hp r3 (fun q hq e => owns_two ho hp (by decide) e hq), ?_⟩⟩
  unfold OwnC
  rw [List.length_append, List.length_singleton, cellsT_snoc]
  exact r2
end

section
open Go.RowKit

/-- What orders become so far. -/
structure BeI (S : World) (b : Nat → List I4) (j : Nat) (W : World) (bv : Value) (tv : List Value) : Prop where
  low : Below S.heap.size S W
  row : W.ownsRow S.heap.size 45 1 bv j tv
  thr : ∀ i, i < j → OwnC W S.heap.size (tv.getD i nilV) (b i) ∧ ∀ g, (tv.getD i nilV).ownBlock = some g → bv.ownBlock ≠ some g
section
variable {S W : World} {b : Nat → List I4} {j : Nat} {bv : Value} {tv : List Value}
theorem BeI.start (S : World) (b : Nat → List I4) : BeI S b 0 S nilV [] := ⟨Below.refl _ _, World.ownsRow_nil _ _ _ _, fun i h => absurd h (by omega)⟩
theorem BeI.below (h : BeI S b j W bv tv) {W' : World} (hb : Below W.heap.size W W') : BeI S b j W' bv tv := ⟨h.low.trans (hb.mono h.low.size), owns_below2 h.row hb, fun i hi => ⟨(h.thr i hi).1.below hb, (h.thr i hi).2⟩⟩
theorem BeI.push (h : BeI S b j W bv tv) {V : World} (hb : Below W.heap.size W V) {v : Value} (hv : OwnC V W.heap.size v (b j)) (hj : j ≤ 1000) :
    ∃ g cap w3, (AppS #[22, 22] 22 #[bv, .slice (some ⟨V.heap.size, 0, none⟩) 1 1]).run Tryd.prog (V.alloc (.cells #[v] 45)) = .ok (.slice (some ⟨g, 0, none⟩) (j + 1) cap) w3 ∧ BeI S b (j + 1) w3 (.slice (some ⟨g, 0, none⟩) (j + 1) cap) (tv ++ [v]) := by
  have h0 := h.below hb
  have hl := h0.low.size
  have hone : v.oneCell' = true := by
    rcases hv.2 with ⟨rfl, _⟩ | ⟨g, cap, cur, rfl, _⟩ <;> rfl
  obtain ⟨g, cap, w3, r1, r2, r3, r4⟩ := app_row (T := 22) Tryd.underlying22 infoOs rfl (by omega) h0.row (Below.refl _ V) hl 1 #[v] rfl (by simp [hone]) (by omega) (by omega) (by omega)
  have hbA : Below V.heap.size V (V.alloc (.cells #[v] 45)) := (Below.refl _ _).alloc (Nat.le_refl _) _
  have hlow : Below S.heap.size S w3 := (h0.low.alloc hl _).grown r3 (by simp; omega) (fun q hq => (h0.row.lt q hq).1)
  have hold : ∀ x, x < V.heap.size → bv.ownBlock ≠ some x → x ≠ g := fun x hx hne e => by
    rcases r4 with r4 | r4
    · exact hne (by rw [r4, e])
    · omega
  have htl : tv.length = j := by have := h.row.1; omega
  refine ⟨g, cap, w3, r1, ⟨hlow, r2, fun i hi => ?_⟩⟩
  by_cases e : i = j
  · subst e
    have e1 : (tv ++ [v]).getD i nilV = v := by simp [List.getD, ← htl]
    rw [e1]
    have hvq : ∀ x, v.ownBlock = some x → x < V.heap.size ∧ bv.ownBlock ≠ some x := fun x hx => by
      have h1 := hv.lt x hx
      refine ⟨h1.2, fun e2 => ?_⟩
      have := (h.row.lt x e2).2
      omega
    refine ⟨own_grown (owns_below2 (own_low hv (by have := h.low.size; omega)) hbA) r3 (fun x hx => (hvq x hx).2), fun x hx e2 => ?_⟩
    have : g = x := by simpa [Value.ownBlock] using e2
    exact hold x (hvq x hx).1 (hvq x hx).2 this.symm
  · have hi' : i < j := by omega
    have e1 : (tv ++ [v]).getD i nilV = tv.getD i nilV := by simp [List.getD, List.getElem?_append_left (show i < tv.length by omega)]
    rw [e1]
    have h1 := h0.thr i hi'
    refine ⟨own_grown (owns_below2 h1.1 hbA) r3 (fun x hx => h1.2 x hx), fun x hx e2 => ?_⟩
    have : g = x := by simpa [Value.ownBlock] using e2
    exact hold x (h1.1.lt x hx).2 (h1.2 x hx) this.symm
theorem own_src {W : World} {B : Nat} {a : Option Addr} {c : Nat} {l : List I4} (h : OwnC W B (.slice a l.length c) l) : SrcL W a (cellsT l) := fun k u hu => by
  have hk : k < l.length * 4 := by
    rw [← cellsT_len]
    rcases Nat.lt_or_ge k (cellsT l).length with h1 | h1
    · exact h1
    · rw [List.getElem?_eq_none h1] at hu; cases hu
  obtain ⟨g, cap, e, hg, _⟩ := fam_block h (by omega)
  simp only [Value.slice.injEq] at e
  refine ⟨g, 0, e.1, ?_⟩
  rw [Nat.zero_add]
  exact fam_cell h hg hu
theorem BeI.be {a : Option Addr} {c : Nat} (h : BeI S b j W (.slice a j c) tv) : BeIn W a j b := fun i hi => by
  obtain ⟨g, cap, e, hg, _⟩ := fam_block h.row (by omega)
  simp only [Value.slice.injEq] at e
  have htl : tv.length = j := by have := h.row.1; omega
  obtain ⟨sa, sc, e2⟩ := fam_form (h.thr i hi).1
  refine ⟨g, 0, sa, sc, e.1, ?_, ?_⟩
  · rw [Nat.zero_add, ← e2]
    exact fam_cell h.row hg (by simp [List.getD, show i < tv.length by omega])
  · have := (h.thr i hi).1
    rw [e2] at this
    exact own_src this
end
/-- The document's program that is being made: ahead of the first thread. -/
theorem new_start (w : World) (PB RB : Obj) (wa : Option Addr) (words : List Int) (wc : Nat) (lk rg : Int) (hw : SIs w wa words) (hm : words.length ≤ 64) (b : Nat → Nat → List I4) (L : Nat → Nat) :
    ∃ g cap w3, (AppS #[23, 23] 23 #[.slice (some ⟨w.heap.size + 1 + 1 + 1, 0, none⟩) 0 0, .slice wa words.length wc]).run Tryd.prog ((((w.alloc PB).alloc RB).alloc (.cells #[nilV, nilV, .int .i64 lk, .int .i64 rg] 25)).alloc (.cells #[] 3)) = .ok (.slice (some ⟨g, 0, none⟩) words.length cap) w3 ∧ w3.heap[w.heap.size + 1 + 1]? = some (.cells #[nilV, nilV, .int .i64 lk, .int .i64 rg] 25) ∧
      RwI ((w.alloc PB).alloc RB) (w.heap.size + 1 + 1) (.slice (some ⟨g, 0, none⟩) words.length cap) words lk rg b L 0 (w3.setCell ⟨w.heap.size + 1 + 1, 1, none⟩ (.slice (some ⟨g, 0, none⟩) words.length cap)) nilV [] := by
  obtain ⟨S, hS⟩ : ∃ V, (w.alloc PB).alloc RB = V := ⟨_, rfl⟩
  have hSs : S.heap.size = w.heap.size + 1 + 1 := by rw [← hS]; simp
  rw [hS]
  have hwS : SIs (S.alloc (.cells #[nilV, nilV, .int .i64 lk, .int .i64 rg] 25)) wa words := by
    rw [← hS]
    exact hw.below ((((Below.refl _ _).alloc (Nat.le_refl _) _).alloc (by simp) _).alloc (by simp; omega) _)
  obtain ⟨g, cap, w3, r1, r2, r3, r4, r5⟩ := app_src (S.alloc (.cells #[nilV, nilV, .int .i64 lk, .int .i64 rg] 25)) (S.heap.size + 1) (by simp) wa words wc hwS (by omega)
  rw [World.size_alloc, hSs] at r1
  have hb3 : Below (S.heap.size + 1) (S.alloc (.cells #[nilV, nilV, .int .i64 lk, .int .i64 rg] 25)) w3 := ((Below.refl _ _).alloc (by simp) _).grown r3 (by simp) (fun k hk => by simp at hk; omega)
  have hq3 : w3.heap[w.heap.size + 1 + 1]? = some (.cells #[nilV, nilV, .int .i64 lk, .int .i64 rg] 25) := by
    rw [← hSs, hb3.block _ (by omega)]
    exact heap_alloc_new _ _
  have hlow : Below S.heap.size S w3 := ((Below.refl _ _).alloc (Nat.le_refl _) _).trans (hb3.mono (by omega))
  have hgq : g ≠ w.heap.size + 1 + 1 := by simp at r4; omega
  refine ⟨g, cap, w3, r1, hq3, ⟨hlow.setCell (by show S.heap.size ≤ w.heap.size + 1 + 1; omega) _, by omega, ?_, ?_, ?_, World.ownsRow_nil _ _ _ _, by simp [Value.ownBlock], fun x _ e => by simp [Value.ownBlock] at e, fun t ht => absurd ht (by omega)⟩⟩
  · rw [heap_set_same hq3]
    rfl
  · exact owns_far (own_low r2 (by omega)) (fun e => hgq (by simpa [Value.ownBlock] using e))
  · exact fun e => hgq (by simpa [Value.ownBlock] using e)

abbrev ordO (x : I4) : Obj := .cells #[.int .i64 x.1, .int .i64 x.2.1, .int .i64 x.2.2.1, .int .i64 x.2.2.2] 44
theorem own_one (W : World) (x : I4) : OwnC (W.alloc (ordO x)) W.heap.size (.slice (some ⟨W.heap.size, 0, none⟩) 1 1) [x] ∧ Below W.heap.size W (W.alloc (ordO x)) :=
  ⟨⟨rfl, .inr ⟨W.heap.size, 1, _, rfl, Nat.le_refl _, heap_alloc_new _ _, Nat.le_refl _, by decide, rfl, rfl⟩⟩, (Below.refl _ _).alloc (Nat.le_refl _) _⟩
end

end Go.Proofs.YtkailbdjilkneaaDoor
