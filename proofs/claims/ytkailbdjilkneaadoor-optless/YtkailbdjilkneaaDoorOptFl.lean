/-
  What is known of a thread, while the program begins with it, and while one that is open is taken.
-/
import Derived.Test.YtkailbdjilkneaaDoorOptY
namespace Go.Proofs.YtkailbdjilkneaaDoor
open Go.RowKit

theorem infoMp : (Tryd.prog.info? 110).map (fun i => (i.zero, i.size, i.bytes)) = some (some (.map none), 1, 8) := by kernel_rfl
/-- While the maps are being made: k of them. -/
structure FlB (w W : World) (fb l cc rg k : Nat) (ca : Option Addr) (MB : Nat → Nat) (av : Value) : Prop where
  low : Below w.heap.size w W
  lo : w.heap.size ≤ fb ∧ ∀ i, i < k → w.heap.size ≤ MB i
  box : W.heap[fb]? = some (.cells #[.slice ca l cc, .int .i64 (rg : Int), av, nilV] 109)
  out : W.ownsRow w.heap.size 110 1 av k ((List.range k).map fun i => .map (some (MB i)))
  mp : ∀ i, i < k → MpV W (MB i) (fun _ => .no) rg 0
  inj : ∀ i j, i < k → j < k → MB i = MB j → i = j
section
variable {w W W' V : World} {fb l cc rg k : Nat} {ca : Option Addr} {MB : Nat → Nat} {av : Value}
theorem FlB.below (h : FlB w W fb l cc rg k ca MB av) (hb : Below W.heap.size W W') : FlB w W' fb l cc rg k ca MB av :=
  ⟨h.low.trans (hb.mono h.low.size), h.lo, (hb.block _ (box_lt h.box)).trans h.box, owns_below2 h.out hb, fun i hi => (h.mp i hi).keep (hb.block _ (h.mp i hi).lt), h.inj⟩
set_option maxRecDepth 100000 in
/-- One map more. -/
theorem FlB.push (h : FlB w W fb l cc rg k ca MB av) (hk : k ≤ 1001) :
    ∃ g cap w3, (AppS #[106, 106] 106 #[av, .slice (some ⟨W.heap.size + 1, 0, none⟩) 1 1]).run Tryd.prog ((W.alloc (.map #[] 0)).alloc (.cells #[.map (some W.heap.size)] 110)) = .ok (.slice (some ⟨g, 0, none⟩) (k + 1) cap) w3 ∧ w3.heap[fb]? = W.heap[fb]? ∧
      FlB w (w3.setCell ⟨fb, 2, none⟩ (.slice (some ⟨g, 0, none⟩) (k + 1) cap)) fb l cc rg (k + 1) ca (fun i => if i = k then W.heap.size else MB i) (.slice (some ⟨g, 0, none⟩) (k + 1) cap) := by
  have hm := mpV_new W rg
  obtain ⟨V, hV⟩ : ∃ V, W.alloc (.map #[] 0) = V := ⟨_, rfl⟩
  have hbV : Below W.heap.size W V := by rw [← hV]; exact low1 _ _
  have hsz : V.heap.size = W.heap.size + 1 := by rw [← hV]; simp
  rw [hV] at hm ⊢
  have h0 := h.below hbV
  have hl := h0.low.size
  obtain ⟨g, cap, w3, r1, r2, r3, r4⟩ := app_row (T := 106) Tryd.underlying106 infoMp rfl (by omega) h0.out (Below.refl _ V) hl 1 #[.map (some W.heap.size)] rfl (by simp [Value.oneCell']) (by omega) (by omega) (by omega)
  have hbA : Below V.heap.size V (V.alloc (.cells #[.map (some W.heap.size)] 110)) := (Below.refl _ _).alloc (Nat.le_refl _) _
  have hne : av.ownBlock ≠ some fb := fun e => own_type h0.out h0.box (by decide) e
  have hblk : ∀ b, b < V.heap.size → av.ownBlock ≠ some b → w3.heap[b]? = V.heap[b]? := fun b hb1 hn => by
    rw [grown_block r3 (by simp; omega) hn]
    exact hbA.block b hb1
  have hfb3 : w3.heap[fb]? = V.heap[fb]? := hblk fb (box_lt h0.box) hne
  have far : ∀ b (u : Value), b ≠ fb → (w3.setCell ⟨fb, 2, none⟩ u).heap[b]? = w3.heap[b]? := fun b u hb => Below.heap_setCell _ _ _ _ (fun e => hb (by simpa using e))
  have hgf : g ≠ fb := fun e => by
    rcases r4 with r4 | r4
    · exact hne (by rw [r4, e])
    · have := box_lt h0.box; omega
  have hmap : ∀ b f n, MpV V b f rg n → MpV (w3.setCell ⟨fb, 2, none⟩ (.slice (some ⟨g, 0, none⟩) (k + 1) cap)) b f rg n := fun b f n hb => by
    obtain ⟨es, cl, h4⟩ := hb.obj
    have n1 : b ≠ fb := fun e => by
      have h5 := h0.box
      rw [← e, h4] at h5
      cases h5
    have n2 : av.ownBlock ≠ some b := fun e => by
      rcases h0.out.2 with ⟨h6, _⟩ | ⟨g', cap', cur, hv, _, hh, _⟩
      · rw [h6] at e; cases e
      · have e2 : g' = b := by
          rw [hv] at e
          simpa [Value.ownBlock] using e
        rw [e2, h4] at hh
        cases hh
    exact hb.keep ((far _ _ n1).trans (hblk _ hb.lt n2))
  refine ⟨g, cap, w3, by rw [← hsz]; exact r1, hfb3.trans (hbV.block _ (box_lt h.box)), ⟨?_, ⟨h.lo.1, fun i hi => ?_⟩, heap_set_same (hfb3.trans h0.box), ?_, fun i hi => ?_, fun i j hi hj e => ?_⟩⟩
  · exact ((h0.low.alloc hl _).grown r3 (by simp; omega) (fun q hq => (h0.out.lt q hq).1)).setCell h.lo.1 _
  · by_cases e : i = k
    · simp only [e, ↓reduceIte]; exact h.low.size
    · simp only [if_neg e]; exact h.lo.2 i (by omega)
  · have e : (List.range (k + 1)).map (fun i => Value.map (some (if i = k then W.heap.size else MB i))) = ((List.range k).map fun i => Value.map (some (MB i))) ++ [.map (some W.heap.size)] := by
      rw [List.range_succ, List.map_append, List.map_singleton, if_pos rfl]
      congr 1
      refine List.map_congr_left fun i hi => ?_
      rw [if_neg (by have := List.mem_range.1 hi; omega)]
    rw [e]
    refine owns_far r2 ?_
    simp only [Value.ownBlock]
    exact fun e => hgf (by simpa using e)
  · by_cases e : i = k
    · simp only [e, ↓reduceIte]
      exact hmap _ _ _ hm
    · simp only [if_neg e]
      exact hmap _ _ _ (h0.mp i (by omega))
  · have hlt : ∀ q, q < k → MB q < W.heap.size := fun q hq => (h.mp q hq).lt
    by_cases ei : i = k
    · by_cases ej : j = k
      · rw [ei, ej]
      · simp only [if_pos ei, if_neg ej] at e
        have := hlt j (by omega)
        omega
    · by_cases ej : j = k
      · simp only [if_neg ei, if_pos ej] at e
        have := hlt i (by omega)
        omega
      · simp only [if_neg ei, if_neg ej] at e
        exact h.inj i j (by omega) (by omega) e
/-- All maps are there. -/
theorem FlB.done (h : FlB w W fb l cc rg (l + 1) ca MB av) (hl : l ≤ 1000) (hrg : rg ≤ 200) : ∃ ga ac, av = .slice (some ⟨ga, 0, none⟩) (l + 1) ac ∧ FlV w W fb ga ac l cc rg ca MB nilV (fun _ _ => .no) [] := by
  have hms : meas l rg (fun _ _ => .no) ≤ 1000000 := by
    have h1 := meas_bound (l := l) (rg := rg) (E := fun _ _ => Vl.no)
    have h2 : (l + 1) * (rg * 2) ≤ 1001 * 400 := Nat.mul_le_mul (by omega) (by omega)
    omega
  rcases h.out.2 with ⟨_, h0⟩ | ⟨ga, ac, cur, hv, hga, hh, _, _, h3, h4⟩
  · omega
  · refine ⟨ga, ac, hv, h.low, ⟨h.lo.1, hga, fun i hi => h.lo.2 i (by omega)⟩, by rw [← hv]; exact h.box, ⟨cur, hh, fun i hi => ?_⟩, World.ownsRow_nil _ _ _ _, fun i hi => ⟨0, h.mp i (by omega), by omega⟩, fun i j hi hj => h.inj i j (by omega) (by omega), by simpa using hms⟩
    have h5 : ((List.range (l + 1)).map fun i => Value.map (some (MB i)))[i]? = some (.map (some (MB i))) := by simp [show i < l + 1 by omega]
    rw [← h4, List.getElem?_take, if_pos (by omega)] at h5
    simpa using h5
end
section
variable {w W : World} {fb ga ac l cc rg : Nat} {ca : Option Addr} {MB : Nat → Nat} {E : Nat → Nat → Vl} {O : List (Nat × Nat)}
theorem own_cut2 {B n m cap : Nat} {e : TypeId} {x : Option Addr} {xs : List Value} (h : W.ownsRow B e 2 (.slice x n cap) n xs) (hm : m ≤ n) : W.ownsRow B e 2 (.slice x m cap) m (xs.take (m * 2)) := by
  refine ⟨by rw [List.length_take, h.1]; omega, ?_⟩
  rcases h.2 with ⟨h0, h1⟩ | ⟨g', cap', cur, hv, hg', hh, h1, h2, h3, h4⟩
  · simp only [Value.slice.injEq] at h0
    obtain ⟨rfl, rfl, rfl⟩ := h0
    exact Or.inl ⟨by rw [show m = 0 by omega], by omega⟩
  · simp only [Value.slice.injEq, true_and] at hv
    obtain ⟨rfl, rfl⟩ := hv
    refine Or.inr ⟨g', cap, cur, rfl, hg', hh, by omega, h2, h3, ?_⟩
    rw [← h4, List.take_take, Nat.min_eq_left (by omega)]
/-- The last one that is open is taken. -/
theorem FlV.cut {a s oc : Nat} {oa : Option Addr} (h : FlV w W fb ga ac l cc rg ca MB (.slice oa (O.length + 1) oc) E (O ++ [(a, s)])) : FlV w (W.setCell ⟨fb, 3, none⟩ (.slice oa O.length oc)) fb ga ac l cc rg ca MB (.slice oa O.length oc) E O := by
  have hop := h.op
  rw [List.length_append, List.length_singleton] at hop
  have h1 := own_cut2 hop (m := O.length) (by omega)
  have e : (spL (O ++ [(a, s)])).take (O.length * 2) = spL O := by
    rw [spL_snoc, List.take_append_of_le_length (by rw [spL_len]; omega), List.take_of_length_le (by rw [spL_len]; omega)]
  rw [e] at h1
  have hne : (Value.slice oa O.length oc).ownBlock ≠ some fb := fun e2 => own_type h1 h.box (by decide) e2
  have far : ∀ b, b ≠ fb → (W.setCell ⟨fb, 3, none⟩ (.slice oa O.length oc)).heap[b]? = W.heap[b]? := fun b hb => Below.heap_setCell _ _ _ _ (fun e => hb (by simpa using e))
  obtain ⟨c, g1, g2⟩ := h.out
  refine ⟨h.low.setCell h.lo.1 _, h.lo, heap_set_same h.box, ⟨c, ?_, g2⟩, owns_far h1 hne, fun j hj => ?_, h.inj, ?_⟩
  · have hn : ga ≠ fb := fun e => by
      have h5 := h.box
      rw [← e, g1] at h5
      simp only [Option.some.injEq, Obj.cells.injEq] at h5
      exact absurd h5.2.1 (by decide)
    exact (far _ hn).trans g1
  · obtain ⟨n, h3, h4⟩ := h.mp j hj
    have hn : MB j ≠ fb := fun e => h.mapNe hj h.box e.symm
    exact ⟨n, h3.keep (far _ hn), h4⟩
  · have := h.olen
    rw [List.length_append, List.length_singleton] at this
    omega
end
section
variable {X : Nat → Nat → Int} {l rg k m lk : Nat} {E : Nat → Nat → Vl} {O : List (Nat × Nat)} {P : Nat → Nat → Nat → Prop}
/-- One register more is there ahead of order 0. -/
theorem WkV.first (h : WkV X l rg k E O P) (hk : k < rg) : WkV X l rg (k + 1) (updE E 0 k ((E 0 k).meet (.num 0))) (newO E 0 k (.num 0) O) P := by
  have h1 := h.meet (i := 0) (s := k) (v := .num 0) (Nat.zero_le _) hk (fun F hF => hF.z k hk)
  refine ⟨h1.sound, h1.opn, fun r hr hrg => ?_, h1.cons⟩
  by_cases e : r = k
  · rw [e, updE_same]
    exact Vl.le_meet_r _ _
  · exact h1.z r (by omega) hrg
end

end Go.Proofs.YtkailbdjilkneaaDoor
