/-
  The document's side: rows of rows of truths; which registers are live, for all registers.
-/
import Derived.Test.YtocfocjnnjdcgaaDoorLivH
namespace Go.Proofs.YtocfocjnnjdcgaaDoor
open Go.RowKit

/-- Rows of truths in a row, k of m made; all lie behind what lay in w. -/
structure Grid (w W : World) (g m rg k : Nat) (G : Nat → Nat) (P : Nat → List Bool) : Prop where
  out : W.heap[g]? = some (.cells ((List.range m).map fun i => if i < k then .slice (some ⟨G i, 0, none⟩) rg rg else nilV).toArray 39)
  row : ∀ i, i < k → BR W (G i) (P i)
  len : ∀ i, i < k → (P i).length = rg
  inj : ∀ i j, i < k → j < k → G i = G j → i = j
  lo : w.heap.size ≤ g ∧ ∀ i, i < k → w.heap.size ≤ G i
  low : Below w.heap.size w W
  km : k ≤ m
def putP (P : Nat → List Bool) (i j : Nat) (b : Bool) : Nat → List Bool := fun q => if q = i then (P i).set j b else P q
theorem getD_setB {R : List Bool} {j i : Nat} {b : Bool} (hj : j < R.length) : (R.set j b).getD i false = if i = j then b else R.getD i false := by
  rw [List.getD_eq_getElem?_getD, List.getD_eq_getElem?_getD]
  by_cases e : i = j
  · subst e
    rw [List.getElem?_set_self hj, if_pos rfl]
    rfl
  · rw [List.getElem?_set_ne (fun x => e x.symm), if_neg e]
theorem putP_getD {P : Nat → List Bool} {i j q c : Nat} {b : Bool} (hj : j < (P i).length) : (putP P i j b q).getD c false = if q = i ∧ c = j then b else (P q).getD c false := by
  unfold putP
  by_cases hq : q = i
  · subst hq
    rw [if_pos rfl, getD_setB hj]
    by_cases hc : c = j
    · rw [if_pos hc, if_pos ⟨rfl, hc⟩]
    · rw [if_neg hc, if_neg (fun h => hc h.2)]
  · rw [if_neg hq, if_neg (fun h => hq h.1)]
section
variable {w W W' : World} {g m rg k : Nat} {G : Nat → Nat} {P : Nat → List Bool}
theorem Grid.below (h : Grid w W g m rg k G P) (hb : Below W.heap.size W W') : Grid w W' g m rg k G P :=
  ⟨(hb.block g (Array.getElem?_eq_some_iff.1 h.out).1).trans h.out, fun i hi => (h.row i hi).below hb, h.len, h.inj, h.lo, h.low.trans (hb.mono h.low.size), h.km⟩
theorem Grid.ne (h : Grid w W g m rg k G P) {i : Nat} (hi : i < k) : g ≠ G i := fun e => by
  have h1 := h.row i hi
  unfold BR at h1
  rw [← e, h.out] at h1
  simp only [Option.some.injEq, Obj.cells.injEq] at h1
  exact absurd h1.2.1 (by decide)
theorem Grid.at (h : Grid w W g m rg k G P) {i : Nat} (hi : i < k) : W.cell? ⟨g, i, none⟩ = some (.slice (some ⟨G i, 0, none⟩) rg rg) := by
  refine box_cell h.out ?_
  have := h.km
  simp [hi, show i < m by omega]
theorem Grid.cell (h : Grid w W g m rg k G P) {i j : Nat} (hi : i < k) (hj : j < rg) : W.cell? ⟨G i, j, none⟩ = some (.bool ((P i).getD j false)) := (h.row i hi).cell (by rw [h.len i hi]; exact hj)
theorem Grid.free (h : Grid w W g m rg k G P) {i : Nat} (hi : i < k) (j : Nat) : W.frozen? ⟨G i, j, none⟩ = false := (h.row i hi).free j
theorem Grid.put (h : Grid w W g m rg k G P) {i : Nat} (hi : i < k) (j : Nat) (b : Bool) : Grid w (W.setCell ⟨G i, j, none⟩ (.bool b)) g m rg k G (putP P i j b) := by
  refine ⟨?_, fun q hq => ?_, fun q hq => ?_, h.inj, h.lo, h.low.setCell (h.lo.2 i hi) _, h.km⟩
  · exact (Below.heap_setCell _ _ _ _ (fun x => h.ne hi (by simpa using x))).trans h.out
  · unfold putP
    by_cases e : q = i
    · subst e
      rw [if_pos rfl]
      exact (h.row q hq).put j b
    · rw [if_neg e]
      exact (h.row q hq).far (fun x => e (h.inj q i hq hi x)) _
  · unfold putP
    split
    · rw [List.length_set]; exact h.len i hi
    · exact h.len q hq
/-- One more row. -/
theorem Grid.more (h : Grid w W g m rg k G P) (hk : k < m) (hn : BR W' W.heap.size (List.replicate rg false)) (hb : Below W.heap.size W W') :
    Grid w (W'.setCell ⟨g, k, none⟩ (.slice (some ⟨W.heap.size, 0, none⟩) rg rg)) g m rg (k + 1) (fun i => if i = k then W.heap.size else G i) (fun i => if i = k then List.replicate rg false else P i) := by
  have h2 := h.below hb
  have hgl : g < W.heap.size := (Array.getElem?_eq_some_iff.1 h.out).1
  refine ⟨?_, fun i hi => ?_, fun i hi => ?_, fun i j hi hj e => ?_, ⟨h.lo.1, fun i hi => ?_⟩, h2.low.setCell h.lo.1 _, hk⟩
  · refine (heap_set_same h2.out).trans ?_
    rw [List.setIfInBounds_toArray]
    congr 3
    refine List.ext_getElem? fun i => ?_
    rw [List.getElem?_set, List.length_map, List.length_range]
    by_cases e : k = i
    · subst e
      rw [if_pos rfl, if_pos hk]
      simp [hk]
    · rw [if_neg e]
      by_cases him : i < m
      · simp only [List.getElem?_map, List.getElem?_range him, Option.map_some]
        congr 1
        by_cases hik : i < k
        · rw [if_pos hik, if_pos (by omega), if_neg (by omega)]
        · rw [if_neg hik, if_neg (by omega)]
      · rw [List.getElem?_eq_none (by simp; omega), List.getElem?_eq_none (by simp; omega)]
  · by_cases e : i = k
    · subst e
      rw [if_pos rfl, if_pos rfl]
      exact hn.far (by omega) _
    · rw [if_neg e, if_neg e]
      exact (h2.row i (by omega)).far (fun x => h.ne (i := i) (by omega) x.symm) _
  · by_cases e : i = k
    · rw [if_pos e]; simp
    · rw [if_neg e]; exact h.len i (by omega)
  · have hl : ∀ q, q < k → G q < W.heap.size := fun q hq => (h.row q hq).lt
    by_cases ei : i = k
    · by_cases ej : j = k
      · rw [ei, ej]
      · rw [if_pos ei, if_neg ej] at e
        have := hl j (by omega)
        omega
    · by_cases ej : j = k
      · rw [if_neg ei, if_pos ej] at e
        have := hl i (by omega)
        omega
      · rw [if_neg ei, if_neg ej] at e
        exact h.inj i j (by omega) (by omega) e
  · split
    · exact h.low.size
    · exact h.lo.2 i (by omega)
end
theorem infoBl : (Tryd.prog.info? 39).map (fun i => (i.zero, i.size, i.bytes)) = some (some nilV, 1, 24) := by kernel_rfl
set_option maxRecDepth 100000 in
theorem grid_start (w : World) (m rg : Nat) (hm : m ≤ 1001) : ∃ w1, (Instr.makeSlice 34 (.int .i64 (m : Int)) (.int .i64 (m : Int))).run Tryd.prog w = .ok (.slice (some ⟨w.heap.size, 0, none⟩) m m) w1 ∧ Grid w w1 w.heap.size m rg 0 (fun _ => 0) (fun _ => []) ∧ Below w.heap.size w w1 := by
  obtain ⟨i, hi, hz0, hz1, hz2⟩ := info_is infoBl
  obtain ⟨w1, r1, r2, r3⟩ := run_makeSlice_full (P := Tryd.prog) w w.heap.size 34 39 i nilV 1 Tryd.underlying34 hi hz0 hz1 .i64 .i64 m (by omega) (by rw [hz2]; omega) (by unfold maxLen; omega) (Nat.le_refl _)
  have hlow : Below w.heap.size w w1 := (Below.refl _ _).grown r3 (Nat.le_refl _) (fun k hk => by cases hk)
  refine ⟨w1, by simpa using r1, ⟨?_, fun i h => absurd h (Nat.not_lt_zero _), fun i h => absurd h (Nat.not_lt_zero _), fun i j h => absurd h (Nat.not_lt_zero _), ⟨Nat.le_refl _, fun i h => absurd h (Nat.not_lt_zero _)⟩, hlow, Nat.zero_le _⟩, hlow⟩
  have e : nilV.cells = #[nilV] := rfl
  rw [Nat.mul_one, e] at r2
  refine (owns_heap r2).trans ?_
  congr 2
  apply Array.ext'
  apply List.ext_getElem?
  intro i
  simp only [madeCells]
  by_cases h : i < m
  · simp [h, Nat.mod_one]
  · simp [h]

set_option maxRecDepth 100000 in
set_option maxHeartbeats 6400000 in
/-- Which registers are live ahead of each order. -/
theorem rsets_any (w : World) (ca : Option Addr) (l cc : Nat) (X : Nat → Nat → Int) (rg m lk : Nat) (hl : l ≤ 1000) (hrg : rg ≤ 200) (hord : ∀ i, i < l → OrdAt w ca i (X i 0) (X i 1) (X i 2) (X i 3)) (hok : ∀ i, i < l → ordE rg m lk l (X i 0) (X i 1) (X i 2) (X i 3) = 0) :
    Calls Tryd.prog 11 #[.slice ca l cc, .int .i64 rg] w fun e w' => ∃ g G P, e = .returned (.slice (some ⟨g, 0, none⟩) (l + 1) (l + 1)) ∧ Grid w w' g (l + 1) rg (l + 1) G P ∧ (∀ i q, i ≤ l → q < rg → ((P i).getD q false = true ↔ Lv X l q i)) := by
  obtain ⟨w1, hrun1, hG1, -⟩ := grid_start w (l + 1) rg (by omega)
  have hlx : ((l : Int) + 1) = ((l + 1 : Nat) : Int) := by omega
  rw [← hlx] at hrun1
  have HAH : Hid (∀ V, Below w.heap.size w V → ∀ r, r < rg → Calls Tryd.prog 34 #[.slice ca l cc, .int .i64 (r : Int)] V fun e w' => ∃ ab R, e = .returned (.slice (some ⟨ab, 0, none⟩) (l + 1) (l + 1)) ∧ BR w' ab R ∧ R.length = l + 1 ∧ (∀ i, R.getD i false = true ↔ Lv X l r i) ∧ Below V.heap.size V w' ∧ V.heap.size ≤ ab) := fun V hV r _ => rahead_any V ca l cc X rg m lk r hl (fun i hi => (hord i hi).below hV) hok
  have HG1 := Hid.out (p := Hid _) hG1
  have HTS : Hid (∀ V, ∃ w1, (Instr.makeSlice 39 (.int .i64 (rg : Int)) (.int .i64 (rg : Int))).run Tryd.prog V = .ok (.slice (some ⟨V.heap.size, 0, none⟩) rg rg) w1 ∧ BR w1 V.heap.size (List.replicate rg false) ∧ Below V.heap.size V w1) := fun V => truths_start V rg (by omega)
  clear hord hok hlx hG1
  go_enter Tryd.func11, Tryd.ntmps11
  go_wp2_with fail
  go_loopw [6] (fun x wr => ∃ (k : Nat) (G : Nat → Nat) (P : Nat → List Bool), k ≤ l + 1 ∧ x = .int .i64 k ∧ Hid (Grid w wr w.heap.size (l + 1) rg k G P)) (fun x _ => l + 1 - (intOf x).toNat)
  case atStart => exact ⟨0, _, _, Nat.zero_le _, rfl, HG1.out⟩
  case round =>
    obtain ⟨k, G, P, hk, rfl, HG⟩ := hrel
    clear HG1
    by_cases hlt : k ≤ l
    · have hlt' : (k : Int) ≤ (l : Int) := by omega
      have hkb : (k : Int) < (l : Int) + 1 := by omega
      obtain ⟨w3, hrun3, hR3, hB3⟩ := HTS.out wr
      have hNext := HG.out.more (by omega) hR3 hB3
      have HN := Hid.out (p := Hid _) hNext
      obtain ⟨v9, hc9⟩ : ∃ v, w3.cell? ⟨w.heap.size, k, none⟩ = some v := by
        have h1 := (HG.out.below hB3).out
        exact ⟨nilV, box_cell h1 (by simp [show k < l + 1 by omega])⟩
      have hf9 : w3.frozen? ⟨w.heap.size, k, none⟩ = false := box_free (HG.out.below hB3).out
      clear hNext hR3 hB3
      go_wp2_with fail
      go_roundw
      case rel => exact ⟨k + 1, _, _, by omega, by go_num, HN.out⟩
      case measure => simp [intOf]; omega
    · obtain rfl : k = l + 1 := by omega
      have hlt' : ¬ (((l + 1 : Nat) : Int)) ≤ (l : Int) := by omega
      go_wp2_with fail
      go_loopw [7] (fun x wr => ∃ (r : Nat) (P : Nat → List Bool), r ≤ rg ∧ x = .int .i64 r ∧ Hid (Grid w wr w.heap.size (l + 1) rg (l + 1) G P ∧ ∀ i q, i ≤ l → q < r → ((P i).getD q false = true ↔ Lv X l q i))) (fun x _ => rg - (intOf x).toNat)
      case atStart => exact ⟨0, P, Nat.zero_le _, rfl, HG.out, fun i q _ h => absurd h (Nat.not_lt_zero _)⟩
      case round =>
        obtain ⟨r, P, hr, rfl, HI⟩ := hrel
        clear HG
        by_cases hrl : r < rg
        · have hri : (r : Int) < (rg : Int) := by omega
          go_wp2_with fail
          refine Calls.mono (HAH.out _ HI.out.1.low r hrl) ?_
          rintro e w4 ⟨ab, R, rfl, hR4, hRl, hRv, hb4, hab⟩
          have H4 : Hid (Grid w w4 w.heap.size (l + 1) rg (l + 1) G P ∧ BR w4 ab R ∧ (∀ i q, i ≤ l → (q < r ∨ (q = r ∧ i < 0)) → ((P i).getD q false = true ↔ Lv X l q i))) := ⟨HI.out.1.below hb4, hR4, fun i q h1 h2 => HI.out.2 i q h1 (by omega)⟩
          have HV : Hid (R.length = l + 1 ∧ (∀ i, R.getD i false = true ↔ Lv X l r i) ∧ ∀ i, i < l + 1 → G i ≠ ab) := ⟨hRl, hRv, fun i hi e => by have := (HI.out.1.row i hi).lt; omega⟩
          clear hR4 hRl hRv hb4 hab HI
          go_wp2_with fail
          go_loopw [9] (fun x wi => ∃ (t : Nat) (P : Nat → List Bool), t ≤ l + 1 ∧ x = .int .i64 t ∧ Hid (Grid w wi w.heap.size (l + 1) rg (l + 1) G P ∧ BR wi ab R ∧ (∀ i q, i ≤ l → (q < r ∨ (q = r ∧ i < t)) → ((P i).getD q false = true ↔ Lv X l q i)))) (fun x _ => l + 1 - (intOf x).toNat)
          case atStart => exact ⟨0, P, Nat.zero_le _, rfl, H4.out⟩
          case round =>
            obtain ⟨t, P, ht, rfl, HJ⟩ := hrel
            clear H4
            by_cases htl : t ≤ l
            · have hti : (t : Int) ≤ (l : Int) := by omega
              have htb : (t : Int) < (l : Int) + 1 := by omega
              have ht1 : t < l + 1 := by omega
              have a0 := HJ.out.1.at ht1
              have a1 := HJ.out.2.1.cell (i := t) (by rw [HV.out.1]; exact ht1)
              have a2 := HJ.out.1.cell ht1 hrl
              have a3 := HJ.out.1.free ht1 r
              obtain ⟨bt, hbt⟩ : ∃ b, R.getD t false = b := ⟨_, rfl⟩
              rw [hbt] at a1
              have HBT := Hid.out (p := Hid _) hbt
              obtain ⟨gt, hgt⟩ : ∃ b, G t = b := ⟨_, rfl⟩
              rw [hgt] at a0 a2 a3
              have HGT := Hid.out (p := Hid _) hgt
              clear hbt hgt
              go_wp2_with fail
              refine region_tail 10 (by kernel_rfl) (by kernel_rfl) ?_
              simp only [List.take_succ_cons, List.take_zero, List.drop_succ_cons, List.drop_zero]
              repeat still_step
              refine wpStill_nil ?_
              go_wp2_with fail
              go_roundw
              case rel =>
                have hg := (HJ.out.1.below ((Below.refl wr.heap.size wr).drew)).put ht1 r bt
                rw [HGT.out] at hg
                have hb := (BR.below HJ.out.2.1 ((Below.refl wr.heap.size wr).drew)).far (b := gt) (i := r) (fun e => HV.out.2.2 t ht1 (by rw [HGT.out]; exact e.symm)) (.bool bt)
                refine ⟨t + 1, putP P t r bt, by omega, by go_num, hg, hb, fun i q hi hq => ?_⟩
                rw [putP_getD (by rw [HJ.out.1.len t ht1]; exact hrl)]
                by_cases h : i = t ∧ q = r
                · rw [if_pos h, h.1, h.2, ← HBT.out]
                  exact HV.out.2.1 t
                · rw [if_neg h]
                  exact HJ.out.2.2 i q hi (by omega)
              case measure => simp [intOf]; omega
            · obtain rfl : t = l + 1 := by omega
              have hti : ¬ (((l + 1 : Nat) : Int)) ≤ (l : Int) := by omega
              have HN : Hid (Grid w wr w.heap.size (l + 1) rg (l + 1) G P ∧ ∀ i q, i ≤ l → q < r + 1 → ((P i).getD q false = true ↔ Lv X l q i)) := ⟨HJ.out.1, fun i q h1 h2 => HJ.out.2.2 i q h1 (by omega)⟩
              go_wp2_with fail
              go_roundw
              case rel => exact ⟨r + 1, P, by omega, by go_num, HN.out⟩
              case measure => simp [intOf]; omega
        · obtain rfl : r = rg := by omega
          go_wp2_with fail
          go_ret
          exact ⟨_, G, P, rfl, HI.out.1, HI.out.2⟩

end Go.Proofs.YtocfocjnnjdcgaaDoor
