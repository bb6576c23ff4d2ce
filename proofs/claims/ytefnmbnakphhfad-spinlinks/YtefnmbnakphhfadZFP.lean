/-
  Orders anew, by the document: places, and what orders become, in memory.
-/
import Derived.Test.YtefnmbnakphhfadFRewI
import Derived.Test.YtefnmbnakphhfadSOk
import Derived.Test.YtefnmbnakphhfadInProg
import Derived.Test.YtefnmbnakphhfadAppB
import Derived.Test.YtefnmbnakphhfadRunP
import Derived.Deep.QuietTactic
import Derived.BigQuiet
import Derived.BigRegion
import Derived.StillTailTactics
import Derived.Test.YtefnmbnakphhfadDSt2
import Derived.Laws.OwnMore
namespace Go.Proofs.Ytefnmbnakphhfad
open Go.RowKit

/-! Put: the new places. -/
/-- The places so far. -/
def pcsL (b : Nat → List I4) (l j : Nat) : List Int := (List.range (l + 1)).map fun i => if i < j then (plR b i : Int) else 0
theorem pcs_len (b : Nat → List I4) (l j : Nat) : (pcsL b l j).length = l + 1 := by simp [pcsL]
theorem pcs_at {b : Nat → List I4} {l j i : Nat} (hi : i < l + 1) : (pcsL b l j).getD i 0 = if i < j then (plR b i : Int) else 0 := by simp [pcsL, List.getD, hi]
theorem pcs_set {b : Nat → List I4} {l j : Nat} : (pcsL b l j).set j (plR b j : Int) = pcsL b l (j + 1) := by
  apply List.ext_getElem?
  intro i
  by_cases hi : i < l + 1
  · by_cases e : j = i
    · subst e
      rw [List.getElem?_set_self (by rw [pcs_len]; exact hi)]
      simp [pcsL, hi]
    · rw [List.getElem?_set_ne e]
      simp only [pcsL, List.getElem?_map, List.getElem?_range hi, Option.map_some]
      congr 1
      by_cases h : i < j
      · rw [if_pos h, if_pos (by omega)]
      · rw [if_neg h, if_neg (by omega)]
  · rw [List.getElem?_eq_none (by simp [pcs_len]; omega), List.getElem?_eq_none (by rw [pcs_len]; omega)]
theorem made_ints6 (n : Nat) : (madeCells #[Value.int .i64 0] n).toList = intsV (List.replicate n 0) := by
  apply List.ext_getElem?
  intro i
  simp only [madeCells, intsV]
  by_cases h : i < n
  · simp [h, Nat.mod_one]
  · simp [h]
theorem put_start (w : World) (b : Nat → List I4) (l : Nat) (hl : l ≤ 1000) : ∃ w1, (Instr.makeSlice 23 (.int .i64 ((l : Int) + 1)) (.int .i64 ((l : Int) + 1))).run Try.prog w = .ok (.slice (some ⟨w.heap.size, 0, none⟩) (l + 1) (l + 1)) w1 ∧ w1.ownsRow w.heap.size 3 1 (.slice (some ⟨w.heap.size, 0, none⟩) (l + 1) (l + 1)) (l + 1) (intsV (pcsL b l 0)) ∧ Below w.heap.size w w1 := by
  obtain ⟨i, hi, hz0, hz1, hz2⟩ := info_is infoI
  obtain ⟨w1, r1, r2, r3⟩ := run_makeSlice_full (P := Try.prog) w w.heap.size 23 3 i (.int .i64 0) 1 Try.underlying23 hi hz0 hz1 .i64 .i64 (l + 1) (by omega) (by rw [hz2]; omega) (by unfold maxLen; omega) (Nat.le_refl _)
  have hlow : Below w.heap.size w w1 := (Below.refl _ _).grown r3 (Nat.le_refl _) (fun k hk => by cases hk)
  refine ⟨w1, by simpa using r1, ?_, hlow⟩
  rw [Nat.mul_one] at r2
  have e : (Value.int .i64 0).cells = #[Value.int .i64 0] := rfl
  have e2 : pcsL b l 0 = List.replicate (l + 1) 0 := by
    apply List.ext_getElem?
    intro i
    by_cases h : i < l + 1
    · simp [pcsL, h]
    · rw [List.getElem?_eq_none (by rw [pcs_len]; omega), List.getElem?_eq_none (by simp; omega)]
  rw [e, made_ints6] at r2
  rw [e2]
  exact r2
/-- What an order becomes lies in memory. -/
def BeIn (w : World) (ba : Option Addr) (l : Nat) (b : Nat → List I4) : Prop := ∀ i, i < l → ∃ g o sa c, ba = some ⟨g, o, none⟩ ∧ w.cell? ⟨g, o + i, none⟩ = some (.slice sa (b i).length c) ∧ SrcL w sa (cellsT (b i))
theorem BeIn.below {w w' : World} {ba : Option Addr} {l : Nat} {b : Nat → List I4} (h : BeIn w ba l b) (hb : Below w.heap.size w w') : BeIn w' ba l b := fun i hi => by
  obtain ⟨g, o, sa, c, h1, h2, h3⟩ := h i hi
  exact ⟨g, o, sa, c, h1, (hb.cell (lt_of_cell h2)).trans h2, h3.below hb⟩
theorem srcL_order {w : World} {sa : Option Addr} {r : List I4} {k : Nat} (h : SrcL w sa (cellsT r)) (hk : k < r.length) (d : I4) : ∃ g o, sa = some ⟨g, o, none⟩ ∧ w.cell? ⟨g, o + k * 4, none⟩ = some (.int .i64 (r.getD k d).1) ∧ w.cell? ⟨g, o + k * 4 + 1, none⟩ = some (.int .i64 (r.getD k d).2.1) ∧ w.cell? ⟨g, o + k * 4 + 2, none⟩ = some (.int .i64 (r.getD k d).2.2.1) ∧ w.cell? ⟨g, o + k * 4 + 3, none⟩ = some (.int .i64 (r.getD k d).2.2.2) := by
  obtain ⟨y0, y1, y2, y3⟩ := cellsT_at hk d
  obtain ⟨g, o, e, h0⟩ := h _ _ y0
  obtain ⟨g1, o1, e1, h1⟩ := h _ _ y1
  obtain ⟨g2, o2, e2, h2⟩ := h _ _ y2
  obtain ⟨g3, o3, e3, h3⟩ := h _ _ y3
  rw [e] at e1 e2 e3
  simp only [Option.some.injEq, Addr.mk.injEq, and_true] at e1 e2 e3
  obtain ⟨rfl, rfl⟩ := e1
  obtain ⟨rfl, rfl⟩ := e2
  obtain ⟨rfl, rfl⟩ := e3
  exact ⟨g, o, e, h0, h1, h2, h3⟩
/-- What is known while the new orders are made. i orders of which q are j's: what lies there. -/
structure PuI (S : World) (b : Nat → List I4) (l : Nat) (W : World) (ov : Value) (r : List I4) : Prop where
  low : Below S.heap.size S W
  pls : W.ownsRow S.heap.size 3 1 (.slice (some ⟨S.heap.size, 0, none⟩) (l + 1) (l + 1)) (l + 1) (intsV (pcsL b l (l + 1)))
  out : OwnC W S.heap.size ov r
theorem PuI.push {S W V : World} {b : Nat → List I4} {l : Nat} {ov : Value} {r : List I4} (h : PuI S b l W ov r) (hb : Below W.heap.size W V) (x : I4) (hr : r.length ≤ 100000) :
    ∃ g cap w3, (AppS #[48, 48] 48 #[ov, .slice (some ⟨V.heap.size, 0, none⟩) 1 1]).run Try.prog (V.alloc (.cells #[.int .i64 x.1, .int .i64 x.2.1, .int .i64 x.2.2.1, .int .i64 x.2.2.2] 51)) = .ok (.slice (some ⟨g, 0, none⟩) (r.length + 1) cap) w3 ∧ PuI S b l w3 (.slice (some ⟨g, 0, none⟩) (r.length + 1) cap) (r ++ [x]) := by
  have h0 : PuI S b l V ov r := ⟨h.low.trans (hb.mono h.low.size), owns_below2 h.pls hb, h.out.below hb⟩
  have hl := h0.low.size
  obtain ⟨g, cap, w3, r1, r2, r3, r4⟩ := app_row (T := 48) Try.underlying48 infoO rfl (by omega) h0.out (Below.refl _ V) hl 1 #[.int .i64 x.1, .int .i64 x.2.1, .int .i64 x.2.2.1, .int .i64 x.2.2.2] rfl (by simp [Value.oneCell']) (by omega) (by omega) (by omega)
  have hbA : Below V.heap.size V (V.alloc (.cells #[.int .i64 x.1, .int .i64 x.2.1, .int .i64 x.2.2.1, .int .i64 x.2.2.2] 51)) := (Below.refl _ _).alloc (Nat.le_refl _) _
  have hp := owns_below2 h0.pls hbA
  have ho := owns_below2 h0.out hbA
  refine ⟨g, cap, w3, r1, ⟨(h0.low.alloc hl _).grown r3 (by simp; omega) (fun q hq => (h0.out.lt q hq).1), own_grown hp r3 (fun q hq e => owns_two ho hp (by decide) e hq), ?_⟩⟩
  unfold OwnC
  rw [List.length_append, List.length_singleton, cellsT_snoc]
  exact r2

end Go.Proofs.Ytefnmbnakphhfad
