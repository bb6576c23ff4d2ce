/-
  What is known of a thread, while the program begins with it, and while one that is open is taken.
  What always is a number, by the program: the least solution.
-/
import Derived.Test.YtkailbdjilkneaaDoorOptY
namespace Go.Proofs.YtkailbdjilkneaaDoor
section
open Go.RowKit

theorem infoMp : (Tryd.prog.info? 110).map (fun i => (i.zero, i.size, i.bytes)) = some (some (.map none), 1, 8) := by kernel_rfl
/-- While the maps are being made: k of them. -/
structure FlB (w W : World) (fb l cc rg k : Nat) (ca : Option Addr) (MB : Nat → Nat) (av : Value) : Prop where
  low : Below w.heap.size w W
  lo : w.heap.size ≤ fb ∧ ∀ i, i < k → w.heap.size ≤ MB i
  box : W.heap[fb]? = some (.cells #[.slice ca l cc, .int .i64 (rg : Int), av, nilV] 109)
  out : W.ownsRow w.heap.size 110 1 av k ((List.range k).map fun i => .map (some (MB i)))
  mp : ∀ i, i < k → MpV W (MB i) (fun _ => .no) rg 0
  inj : ∀ i j, i < k → j < k → MB i = MB j → i = j
section
variable {w W W' V : World} {fb l cc rg k : Nat} {ca : Option Addr} {MB : Nat → Nat} {av : Value}
theorem FlB.below (h : FlB w W fb l cc rg k ca MB av) (hb : Below W.heap.size W W') : FlB w W' fb l cc rg k ca MB av :=
  ⟨h.low.trans (hb.mono h.low.size), h.lo, (hb.block _ (box_lt h.box)).trans h.box, owns_below2 h.out hb, fun i hi => (h.mp i hi).keep (hb.block _ (h.mp i hi).lt), h.inj⟩
set_option maxRecDepth 100000 in
/-- One map more. -/
theorem FlB.push (h : FlB w W fb l cc rg k ca MB av) (hk : k ≤ 1001) :
    ∃ g cap w3, (AppS #[106, 106] 106 #[av, .slice (some ⟨W.heap.size + 1, 0, none⟩) 1 1]).run Tryd.prog ((W.alloc (.map #[] 0)).alloc (.cells #[.map (some W.heap.size)] 110)) = .ok (.slice (some ⟨g, 0, none⟩) (k + 1) cap) w3 ∧ w3.heap[fb]? = W.heap[fb]? ∧
      FlB w (w3.setCell ⟨fb, 2, none⟩ (.slice (some ⟨g, 0, none⟩) (k + 1) cap)) fb l cc rg (k + 1) ca (fun i => if i = k then W.heap.size else MB i) (.slice (some ⟨g, 0, none⟩) (k + 1) cap) := by
  have hm := mpV_new W rg
  obtain ⟨V, hV⟩ : ∃ V, W.alloc (.map #[] 0) = V := ⟨_, rfl⟩
  have hbV : Below W.heap.size W V := by rw [← hV]; exact low1 _ _
  have hsz : V.heap.size = W.heap.size + 1 := by rw [← hV]; simp
  rw [hV] at hm ⊢
  have h0 := h.below hbV
  have hl := h0.low.size
  obtain ⟨g, cap, w3, r1, r2, r3, r4⟩ := app_row (T := 106) Tryd.underlying106 infoMp rfl (by omega) h0.out (Below.refl _ V) hl 1 #[.map (some W.heap.size)] rfl (by simp [Value.oneCell']) (by omega) (by omega) (by omega)
  have hbA : Below V.heap.size V (V.alloc (.cells #[.map (some W.heap.size)] 110)) := (Below.refl _ _).alloc (Nat.le_refl _) _
  have hne : av.ownBlock ≠ some fb := fun e => own_type h0.out h0.box (by decide) e
  have hblk : ∀ b, b < V.heap.size → av.ownBlock ≠ some b → w3.heap[b]? = V.heap[b]? := fun b hb1 hn => by
    rw [grown_block r3 (by simp; omega) hn]
    exact hbA.block b hb1
  have hfb3 : w3.heap[fb]? = V.heap[fb]? := hblk fb (box_lt h0.box) hne
  have far : ∀ b (u : Value), b ≠ fb → (w3.setCell ⟨fb, 2, none⟩ u).heap[b]? = w3.heap[b]? := fun b u hb => Below.heap_setCell _ _ _ _ (fun e => hb (by simpa using e))
  have hgf : g ≠ fb := fun e => by
    rcases r4 with r4 | r4
    · exact hne (by rw [r4, e])
    · have := box_lt h0.box; omega
  have hmap : ∀ b f n, MpV V b f rg n → MpV (w3.setCell ⟨fb, 2, none⟩ (.slice (some ⟨g, 0, none⟩) (k + 1) cap)) b f rg n := fun b f n hb => by
    obtain ⟨es, cl, h4⟩ := hb.obj
    have n1 : b ≠ fb := fun e => by
      have h5 := h0.box
      rw [← e, h4] at h5
      cases h5
    have n2 : av.ownBlock ≠ some b := fun e => by
      rcases h0.out.2 with ⟨h6, _⟩ | ⟨g', cap', cur, hv, _, hh, _⟩
      · rw [h6] at e; cases e
      · have e2 : g' = b := by
          rw [hv] at e
          simpa [Value.ownBlock] using e
        rw [e2, h4] at hh
        cases hh
    exact hb.keep ((far _ _ n1).trans (hblk _ hb.lt n2))
  refine ⟨g, cap, w3, by rw [← hsz]; exact r1, hfb3.trans (hbV.block _ (box_lt h.box)), ⟨?_, ⟨h.lo.1, fun i hi => ?_⟩, heap_set_same (hfb3.trans h0.box), ?_, fun i hi => ?_, fun i j hi hj e => ?_⟩⟩
  · exact ((h0.low.alloc hl _).grown r3 (by simp; omega) (fun q hq => (h0.out.lt q hq).1)).setCell h.lo.1 _
  · by_cases e : i = k
    · simp only [e, ↓reduceIte]; exact h.low.size
    · simp only [if_neg e]; exact h.lo.2 i (by omega)
  · have e : (List.range (k + 1)).map (fun i => Value.map (some (if i = k then W.heap.size else MB i))) = ((List.range k).map fun i => Value.map (some (MB i))) ++ [.map (some W.heap.size)] := by
      rw [List.range_succ, List.map_append, List.map_singleton, if_pos rfl]
      congr 1
      refine List.map_congr_left fun i hi => ?_
      rw [if_neg (by have := List.mem_range.1 hi; omega)]
    rw [e]
    refine owns_far r2 ?_
    simp only [Value.ownBlock]
    exact fun e => hgf (by simpa using e)
  · by_cases e : i = k
    · simp only [e, ↓reduceIte]
      exact hmap _ _ _ hm
    · simp only [if_neg e]
      exact hmap _ _ _ (h0.mp i (by omega))
  · have hlt : ∀ q, q < k → MB q < W.heap.size := fun q hq => (h.mp q hq).lt
    by_cases ei : i = k
    · by_cases ej : j = k
      · rw [ei, ej]
      · simp only [if_pos ei, if_neg ej] at e
        have := hlt j (by omega)
        omega
    · by_cases ej : j = k
      · simp only [if_neg ei, if_pos ej] at e
        have := hlt i (by omega)
        omega
      · simp only [if_neg ei, if_neg ej] at e
        exact h.inj i j (by omega) (by omega) e
/-- All maps are there. -/
theorem FlB.done (h : FlB w W fb l cc rg (l + 1) ca MB av) (hl : l ≤ 1000) (hrg : rg ≤ 200) : ∃ ga ac, av = .slice (some ⟨ga, 0, none⟩) (l + 1) ac ∧ FlV w W fb ga ac l cc rg ca MB nilV (fun _ _ => .no) [] := by
  have hms : meas l rg (fun _ _ => .no) ≤ 1000000 := by
    have h1 := meas_bound (l := l) (rg := rg) (E := fun _ _ => Vl.no)
    have h2 : (l + 1) * (rg * 2) ≤ 1001 * 400 := Nat.mul_le_mul (by omega) (by omega)
    omega
  rcases h.out.2 with ⟨_, h0⟩ | ⟨ga, ac, cur, hv, hga, hh, _, _, h3, h4⟩
  · omega
  · refine ⟨ga, ac, hv, h.low, ⟨h.lo.1, hga, fun i hi => h.lo.2 i (by omega)⟩, by rw [← hv]; exact h.box, ⟨cur, hh, fun i hi => ?_⟩, World.ownsRow_nil _ _ _ _, fun i hi => ⟨0, h.mp i (by omega), by omega⟩, fun i j hi hj => h.inj i j (by omega) (by omega), by simpa using hms⟩
    have h5 : ((List.range (l + 1)).map fun i => Value.map (some (MB i)))[i]? = some (.map (some (MB i))) := by simp [show i < l + 1 by omega]
    rw [← h4, List.getElem?_take, if_pos (by omega)] at h5
    simpa using h5
end
section
variable {w W : World} {fb ga ac l cc rg : Nat} {ca : Option Addr} {MB : Nat → Nat} {E : Nat → Nat → Vl} {O : List (Nat × Nat)}
theorem own_cut2 {B n m cap : Nat} {e : TypeId} {x : Option Addr} {xs : List Value} (h : W.ownsRow B e 2 (.slice x n cap) n xs) (hm : m ≤ n) : W.ownsRow B e 2 (.slice x m cap) m (xs.take (m * 2)) := by
  refine ⟨by rw [List.length_take, h.1]; omega, ?_⟩
  rcases h.2 with ⟨h0, h1⟩ | ⟨g', cap', cur, hv, hg', hh, h1, h2, h3, h4⟩
  · simp only [Value.slice.injEq] at h0
    obtain ⟨rfl, rfl, rfl⟩ := h0
    exact Or.inl ⟨by rw [show m = 0 by omega], by omega⟩
  · simp only [Value.slice.injEq, true_and] at hv
    obtain ⟨rfl, rfl⟩ := hv
    refine Or.inr ⟨g', cap, cur, rfl, hg', hh, by omega, h2, h3, ?_⟩
    rw [← h4, List.take_take, Nat.min_eq_left (by omega)]
/-- The last one that is open is taken. -/
theorem FlV.cut {a s oc : Nat} {oa : Option Addr} (h : FlV w W fb ga ac l cc rg ca MB (.slice oa (O.length + 1) oc) E (O ++ [(a, s)])) : FlV w (W.setCell ⟨fb, 3, none⟩ (.slice oa O.length oc)) fb ga ac l cc rg ca MB (.slice oa O.length oc) E O := by
  have hop := h.op
  rw [List.length_append, List.length_singleton] at hop
  have h1 := own_cut2 hop (m := O.length) (by omega)
  have e : (spL (O ++ [(a, s)])).take (O.length * 2) = spL O := by
    rw [spL_snoc, List.take_append_of_le_length (by rw [spL_len]; omega), List.take_of_length_le (by rw [spL_len]; omega)]
  rw [e] at h1
  have hne : (Value.slice oa O.length oc).ownBlock ≠ some fb := fun e2 => own_type h1 h.box (by decide) e2
  have far : ∀ b, b ≠ fb → (W.setCell ⟨fb, 3, none⟩ (.slice oa O.length oc)).heap[b]? = W.heap[b]? := fun b hb => Below.heap_setCell _ _ _ _ (fun e => hb (by simpa using e))
  obtain ⟨c, g1, g2⟩ := h.out
  refine ⟨h.low.setCell h.lo.1 _, h.lo, heap_set_same h.box, ⟨c, ?_, g2⟩, owns_far h1 hne, fun j hj => ?_, h.inj, ?_⟩
  · have hn : ga ≠ fb := fun e => by
      have h5 := h.box
      rw [← e, g1] at h5
      simp only [Option.some.injEq, Obj.cells.injEq] at h5
      exact absurd h5.2.1 (by decide)
    exact (far _ hn).trans g1
  · obtain ⟨n, h3, h4⟩ := h.mp j hj
    have hn : MB j ≠ fb := fun e => h.mapNe hj h.box e.symm
    exact ⟨n, h3.keep (far _ hn), h4⟩
  · have := h.olen
    rw [List.length_append, List.length_singleton] at this
    omega
end
section
variable {X : Nat → Nat → Int} {l rg k m lk : Nat} {E : Nat → Nat → Vl} {O : List (Nat × Nat)} {P : Nat → Nat → Nat → Prop}
/-- One register more is there ahead of order 0. -/
theorem WkV.first (h : WkV X l rg k E O P) (hk : k < rg) : WkV X l rg (k + 1) (updE E 0 k ((E 0 k).meet (.num 0))) (newO E 0 k (.num 0) O) P := by
  have h1 := h.meet (i := 0) (s := k) (v := .num 0) (Nat.zero_le _) hk (fun F hF => hF.z k hk)
  refine ⟨h1.sound, h1.opn, fun r hr hrg => ?_, h1.cons⟩
  by_cases e : r = k
  · rw [e, updE_same]
    exact Vl.le_meet_r _ _
  · exact h1.z r (by omega) hrg
end
end

section
open Go.RowKit

attribute [local go_sem ↓] appS_eq in
set_option maxRecDepth 100000 in
set_option maxHeartbeats 1600000 in
theorem follow_any (w : World) (l cc rg m lk : Nat) (ca : Option Addr) (X : Nat → Nat → Int) (hl : l ≤ 1000) (hrg0 : 0 < rg) (hrg : rg ≤ 200) (hord : ∀ i, i < l → OrdAt w ca i (X i 0) (X i 1) (X i 2) (X i 3)) (hok : ∀ i, i < l → ordE rg m lk l (X i 0) (X i 1) (X i 2) (X i 3) = 0) :
    Calls Tryd.prog 29 #[.slice ca l cc, .int .i64 (rg : Int)] w fun e w' => ∃ fb ga ac MB ov E, e = .returned (.pointer (some ⟨fb, 0, none⟩)) ∧ FlV w w' fb ga ac l cc rg ca MB ov E [] ∧ LsV X l rg E := by
  have HOK := Hid.out (p := Hid _) (And.intro hord hok)
  have hB0 : FlB w (w.alloc (.cells #[.slice ca l cc, .int .i64 (rg : Int), nilV, nilV] 109)) w.heap.size l cc rg 0 ca (fun _ => 0) nilV := ⟨low1 _ _, ⟨Nat.le_refl _, fun i h => absurd h (Nat.not_lt_zero i)⟩, heap_alloc_new _ _, World.ownsRow_nil _ _ _ _, fun i h => absurd h (Nat.not_lt_zero i), fun i j h => absurd h (Nat.not_lt_zero i)⟩
  obtain ⟨fb, hfb⟩ : ∃ q, w.heap.size = q := ⟨_, rfl⟩
  obtain ⟨W0, hW0⟩ : ∃ V, w.alloc (.cells #[.slice ca l cc, .int .i64 (rg : Int), nilV, nilV] 109) = V := ⟨_, rfl⟩
  have HFB := Hid.out (p := Hid _) hfb
  have HW0 := Hid.out (p := Hid _) hW0
  have HB0' : FlB w W0 fb l cc rg 0 ca (fun _ => 0) nilV := by rw [← hfb, ← hW0]; exact hB0
  have HB0 := Hid.out (p := Hid _) HB0'
  clear hord hok hB0 hfb hW0 HB0'
  go_enter Tryd.func29, Tryd.ntmps29
  go_wp2_with fail
  rw [HW0.out, HFB.out]
  as_aux_lemma =>
    go_loopw [16] (fun xv wr => ∃ (k : Nat) (MB : Nat → Nat) (va : Option Addr) (vc : Nat), k ≤ l + 1 ∧ xv = .int .i64 k ∧ Hid (FlB w wr fb l cc rg k ca MB (.slice va k vc))) (fun xv _ => l + 1 - (intOf xv).toNat)
    case atStart => exact ⟨0, _, none, 0, Nat.zero_le _, rfl, HB0.out⟩
    case round =>
      obtain ⟨k, MB, va, vc, hk, rfl, HI⟩ := hrel
      clear HB0
      by_cases hlt : k < l + 1
      · as_aux_lemma =>
          have hkI : (k : Int) < (l : Int) + 1 := by omega
          have c2 : wr.cell? ⟨fb, 2, none⟩ = some (.slice va k vc) := box_cell HI.out.box rfl
          obtain ⟨g, cap, w3, r3, hb3, h3⟩ := HI.out.push (by omega)
          have e2 : w3.cell? ⟨fb, 2, none⟩ = some (.slice va k vc) := box_cell (hb3.trans HI.out.box) rfl
          have ef : w3.frozen? ⟨fb, 2, none⟩ = false := box_free (hb3.trans HI.out.box)
          have HN := Hid.out (p := Hid _) h3
          have hmm := @run_makeMap Tryd.prog
          have c2u := fun o => cell_up c2 o
          have c2v := fun o o' => cell_up (cell_up c2 o) o'
          clear h3 hb3
          go_wp2
          go_roundw
          case rel => exact ⟨k + 1, _, _, _, by omega, by go_num, HN.out⟩
          case measure => simp [intOf]; omega
      · obtain rfl : k = l + 1 := by omega
        obtain ⟨ga, ac, hva, hF⟩ := HI.out.done hl hrg
        have HF0 : Hid (FlV w wr fb ga ac l cc rg ca MB nilV (fun _ _ => .no) [] ∧ WkV X l rg 0 (fun _ _ => .no) [] (fun _ _ _ => False)) := ⟨hF, wkV_start⟩
        have hkI : ¬ ((l + 1 : Nat) : Int) < (l : Int) + 1 := by omega
        clear hva hF HI
        as_aux_lemma =>
          go_wp2_with fail
          go_loopw [30] (fun xv wi => ∃ (r : Nat) (oa : Option Addr) (oc : Nat) (E : Nat → Nat → Vl) (O : List (Nat × Nat)), r ≤ rg ∧ xv = .int .i64 r ∧ Hid (FlV w wi fb ga ac l cc rg ca MB (.slice oa O.length oc) E O ∧ WkV X l rg r E O (fun _ _ _ => False))) (fun xv _ => rg - (intOf xv).toNat)
          case atStart => exact ⟨0, none, 0, _, [], Nat.zero_le _, rfl, HF0.out⟩
          case round =>
            obtain ⟨r, oa, oc, E, O, hr, rfl, HL⟩ := hrel
            clear HF0
            by_cases hlt : r < rg
            · as_aux_lemma =>
                have hrI : (r : Int) < (rg : Int) := by omega
                have HAL : Hid (∀ V, Below wr.heap.size wr V → Calls Tryd.prog 60 #[.int .i64 0] V fun e w' => e = .returned (.agg #[.int .i64 1, .int .i64 0]) ∧ Hid (Below wr.heap.size wr w')) := fun V hV => (always_any 0 V).mono fun e w' ⟨h1, h2⟩ => ⟨h1, hV.trans (h2.mono hV.size)⟩
                have HM : Hid (∀ V, Below wr.heap.size wr V → Calls Tryd.prog 59 #[.pointer (some ⟨fb, 0, none⟩), .agg #[.int .i64 0, .int .i64 (r : Int)], .agg #[.int .i64 1, .int .i64 0]] V fun e w' => ∃ ov2, e = .returned (.tuple #[]) ∧ Hid (FlV w w' fb ga ac l cc rg ca MB ov2 (updE E 0 r ((E 0 r).meet (.num 0))) (newO E 0 r (.num 0) O))) := fun V hV => (fmeet_any w V fb ga ac l cc rg ca MB (.slice oa O.length oc) E O (HL.out.1.below hV) 0 r (Nat.zero_le _) hlt hrg (.num 0)).mono fun e w' ⟨ov2, h1, h2, _⟩ => ⟨ov2, h1, h2⟩
                go_wp2_with fail
                refine Calls.mono (HAL.out _ (Below.refl _ _)) ?_
                rintro e w4 ⟨rfl, H4⟩
                go_wp2_with fail
                refine Calls.mono (HM.out _ H4.out) ?_
                rintro e w5 ⟨ov2, rfl, H5⟩
                obtain ⟨oa2, oc2, rfl⟩ := fam_form H5.out.op
                have HN : Hid (FlV w w5 fb ga ac l cc rg ca MB (.slice oa2 (newO E 0 r (.num 0) O).length oc2) (updE E 0 r ((E 0 r).meet (.num 0))) (newO E 0 r (.num 0) O) ∧ WkV X l rg (r + 1) (updE E 0 r ((E 0 r).meet (.num 0))) (newO E 0 r (.num 0) O) (fun _ _ _ => False)) := ⟨H5.out, HL.out.2.first hlt⟩
                clear H5 HM HAL H4
                go_wp2_with fail
                go_roundw
                case rel => exact ⟨r + 1, _, _, _, _, by omega, by go_num, HN.out⟩
                case measure => simp [intOf]; omega
            · obtain rfl : r = rg := by omega
              have hrI : ¬ (r : Int) < (r : Int) := by omega
              as_aux_lemma =>
                go_wp2_with fail
                obtain ⟨M0, hM0⟩ : ∃ M, M = O.length + meas l r E := ⟨_, rfl⟩
                have HL1 : Hid (FlV w wr fb ga ac l cc r ca MB (.slice oa O.length oc) E O ∧ WkV X l r r E O (fun _ _ _ => False) ∧ M0 = O.length + meas l r E) := ⟨HL.out.1, HL.out.2, hM0⟩
                clear HL hM0
                go_loopg [43] M0 (fun gk xv wi => ∃ (oa : Option Addr) (oc : Nat) (E : Nat → Nat → Vl) (O : List (Nat × Nat)), xv = xv ∧ Hid (FlV w wi fb ga ac l cc r ca MB (.slice oa O.length oc) E O ∧ WkV X l r r E O (fun _ _ _ => False) ∧ gk = O.length + meas l r E))
                case atStart => exact ⟨_, _, E, O, rfl, HL1.out⟩
                case round =>
                  obtain ⟨oa, oc, E, O, -, HI⟩ := hrel
                  clear HL1
                  rcases List.eq_nil_or_concat O with rfl | ⟨O1, ⟨a, s⟩, rfl⟩
                  · as_aux_lemma =>
                      have c3 : wr.cell? ⟨fb, 3, none⟩ = some (.slice oa 0 oc) := box_cell HI.out.1.box rfl
                      go_wp2_with fail
                      refine bodyPost_ret (v := .pointer (some ⟨fb, 0, none⟩)) (by simp [results, Tryd.results29, go_sem]) rfl ⟨fb, rfl, ga, ac, MB, _, E, HI.out.1, HI.out.2.1.done⟩
                  · as_aux_lemma =>
                      have HI2 : Hid (FlV w wr fb ga ac l cc r ca MB (.slice oa (O1.length + 1) oc) E (O1 ++ [(a, s)]) ∧ WkV X l r r E (O1 ++ [(a, s)]) (fun _ _ _ => False) ∧ gk = O1.length + 1 + meas l r E) := by
                        have h0 := HI.out
                        rw [List.concat_eq_append, List.length_append, List.length_singleton] at h0
                        exact h0
                      have hop := HI2.out.1.op
                      rw [List.length_append, List.length_singleton] at hop
                      obtain ⟨g, cp, hoa, hob, -, -⟩ := fam_block hop (by omega)
                      simp only [Value.slice.injEq, true_and] at hoa
                      obtain ⟨rfl, rfl⟩ := hoa
                      have hx0 : (spL (O1 ++ [(a, s)]))[O1.length * 2]? = some (.int .i64 (a : Int)) := by
                        rw [spL_snoc, List.getElem?_append_right (by rw [spL_len]; omega), spL_len, show O1.length * 2 - 2 * O1.length = 0 by omega]
                        rfl
                      have hx1 : (spL (O1 ++ [(a, s)]))[O1.length * 2 + 1]? = some (.int .i64 (s : Int)) := by
                        rw [spL_snoc, List.getElem?_append_right (by rw [spL_len]; omega), spL_len, show O1.length * 2 + 1 - 2 * O1.length = 1 by omega]
                        rfl
                      have k0 := fam_cell hop hob hx0
                      have k1 := fam_cell hop hob hx1
                      have hcap : O1.length + 1 ≤ oc := by
                        rcases hop.2 with ⟨h0, h1⟩ | ⟨g', cap', cur, hv, _, _, h1, _⟩
                        · omega
                        · simp only [Value.slice.injEq, true_and] at hv
                          omega
                      obtain ⟨hal, hsr, hne⟩ := HI2.out.2.1.opn a s (by simp)
                      have hol : O1.length ≤ 1000000 := by have := HI2.out.1.olen; rw [List.length_append] at this; omega
                      have c3 : wr.cell? ⟨fb, 3, none⟩ = some (.slice (some ⟨g, 0, none⟩) (O1.length + 1) oc) := box_cell HI2.out.1.box rfl
                      have f3 : wr.frozen? ⟨fb, 3, none⟩ = false := box_free HI2.out.1.box
                      have c3u := fun o => cell_up c3 o
                      have f3u : ∀ o, (wr.alloc o).frozen? ⟨fb, 3, none⟩ = false := fun o => box_free (box_later HI2.out.1.box o)
                      obtain ⟨n1, hn1⟩ : ∃ q, O1.length = q := ⟨_, rfl⟩
                      rw [hn1] at hcap k0 k1 c3 c3u hol
                      have hn0 : (n1 : Int) < ((n1 + 1 : Nat) : Int) := by omega
                      have hpos : (0 : Int) < ((n1 + 1 : Nat) : Int) := by omega
                      have hle : (n1 : Int) ≤ (oc : Int) := by omega
                      have hlen : (n1 : Nat) ≤ oc := by omega
                      have HN1 := Hid.out (p := Hid _) hn1
                      have HNE := Hid.out (p := Hid _) (And.intro hsr hne)
                      clear HI hop hob hx0 hx1 hn1 hsr hne
                      have hM : HdV X l r r a s (n1 + meas l r E) (fun i j q => i = a ∧ depV X a q s ∧ j ∈ wyX X a (E a)) E O1 := ⟨HI2.out.2.1.pop, HNE.out.2, by rw [HN1.out]; exact Nat.le_refl _⟩
                      have hF : FlV w ((wr.alloc (.cells #[.int .i64 (a : Int), .int .i64 (s : Int)] 113)).setCell ⟨fb, 3, none⟩ (.slice (some ⟨g, 0, none⟩) n1 oc)) fb ga ac l cc r ca MB (.slice (some ⟨g, 0, none⟩) n1 oc) E O1 := by
                        have h0 := (HI2.out.1.below (low1 wr (.cells #[.int .i64 (a : Int), .int .i64 (s : Int)] 113))).cut
                        rw [HN1.out] at h0
                        exact h0
                      by_cases hal2 : a < l
                      · have haI : (a : Int) < (l : Int) := by omega
                        have HH := Hid.out (p := Hid _) (fhand_any w _ fb ga ac l cc r m lk ca MB _ E O1 X r a s (n1 + meas l r E) hF hl hrg0 hrg HOK.out.1 HOK.out.2 hal2 HNE.out.1 hM)
                        have HGK : Hid (gk = n1 + 1 + meas l r E) := by have := HI2.out.2.2; rw [HN1.out] at this; exact this
                        clear hF hM hal hal2 HI2
                        go_wp2_with fail
                        refine Calls.mono HH.out ?_
                        rintro e w9 ⟨ov9, E9, O9, rfl, h9, _, z9⟩
                        obtain ⟨oa9, oc9, rfl⟩ := fam_form h9.op
                        have HN9 := Hid.out (p := Hid _) (And.intro h9 z9)
                        clear h9 z9 HH
                        go_wp2_with fail
                        go_roundg (O9.length + meas l r E9)
                        case rel => exact ⟨_, _, E9, O9, True.intro, HN9.out.1, HN9.out.2.wk, rfl⟩
                        case measure => have h1 := HGK.out; have h2 := HN9.out.2.ms; omega
                      · have haI : ¬ (a : Int) < (l : Int) := by omega
                        have HW : Hid (FlV w ((wr.alloc (.cells #[.int .i64 (a : Int), .int .i64 (s : Int)] 113)).setCell ⟨fb, 3, none⟩ (.slice (some ⟨g, 0, none⟩) n1 oc)) fb ga ac l cc r ca MB (.slice (some ⟨g, 0, none⟩) O1.length oc) E O1 ∧ WkV X l r r E O1 (fun _ _ _ => False)) := ⟨by rw [HN1.out]; exact hF, HI2.out.2.1.pop.mono fun i j q hi hp => by rw [hp.1] at hi; exact hal2 hi⟩
                        have HGK : Hid (gk = n1 + 1 + meas l r E) := by have := HI2.out.2.2; rw [HN1.out] at this; exact this
                        clear hF hM hal HI2
                        go_wp2_with fail
                        go_roundg (O1.length + meas l r E)
                        case rel => exact ⟨_, _, E, O1, True.intro, HW.out.1, HW.out.2, rfl⟩
                        case measure => have h1 := HGK.out; have h2 := HN1.out; omega
end

end Go.Proofs.YtkailbdjilkneaaDoor
