/-
  An order that nobody needs becomes none, by the program.
-/
import Derived.Test.YtkailbdjilkneaaDoorOptN
import Derived.Test.YtkailbdjilkneaaDoorOptZ
import Derived.Test.YtkailbdjilkneaaDoorLivC
namespace Go.Proofs.YtkailbdjilkneaaDoor
open Go.RowKit

set_option maxRecDepth 100000 in
set_option maxHeartbeats 1600000 in
theorem nbecome_any (W : World) (ca : Option Addr) (l cc : Nat) (hb ho hc : Nat) (ra : Option Addr) (rc : Nat) (row : List Int) (x0 x1 x2 x3 : Int) (i : Nat) (hl : l ≤ 1000) (hi : i < l) (hop : 1 ≤ x0 ∧ x0 ≤ 18) (hne : 1 ≤ x0 ∧ x0 ≤ 8 → x1 ≠ -1) (hord : OrdAt W ca i x0 x1 x2 x3) (hrow : W.cell? ⟨hb, ho + (i + 1), none⟩ = some (.slice ra row.length rc)) (hs : SIs W ra row) (hr : row.length ≤ 1000) :
    Calls Tryd.prog 33 #[.agg #[.slice ca l cc, .slice (some ⟨hb, ho, none⟩) (l + 1) hc], .int .i64 (i : Int)] W fun e w' => ∃ sa cp, e = .returned (.slice sa (bDrop (decide (1 ≤ x0 ∧ x0 ≤ 8) && !decide (x1 ∈ row)) (x0, x1, x2, x3)).length cp) ∧ SrcL w' sa (cellsT (bDrop (decide (1 ≤ x0 ∧ x0 ≤ 8) && !decide (x1 ∈ row)) (x0, x1, x2, x3))) ∧ Below W.heap.size W w' := by
  obtain ⟨cb, co, rfl, o0, o1, o2, o3⟩ := hord
  have HWR : Hid (∀ V, Calls Tryd.prog 67 #[.agg #[.int .i64 x0, .int .i64 x1, .int .i64 x2, .int .i64 x3]] V fun e w' => ((∃ x, e = .returned (.tuple #[.int .i64 x, .bool true]) ∧ Hid (x = wrL x0 x1 x2)) ∨ (e = .returned (.tuple #[.int .i64 0, .bool false]) ∧ Hid (wrL x0 x1 x2 = -1))) ∧ Below V.heap.size V w') := fun V => (writes_any x0 x1 x2 x3 hop V).mono fun e w' h => by
    refine ⟨?_, h.2⟩
    rcases h.1 with ⟨x, e1, e2, _⟩ | h
    · exact Or.inl ⟨x, e1, e2⟩
    · exact Or.inr h
  have HDN : Hid (∀ V, Calls Tryd.prog 68 #[.int .i64 x0] V fun e w' => e = .returned (.bool (decide (x0 = 1) || decide (x0 = 8) || (decide (2 ≤ x0) && decide (x0 ≤ 7)))) ∧ w' = V) := fun V => doesNoMore_any V x0
  have HCN : Hid (∀ V x, Below W.heap.size W V → Calls Tryd.prog 69 #[.slice ra row.length rc, .int .i64 x] V fun e w' => e = .returned (.bool (decide (x ∈ row))) ∧ Below V.heap.size V w') := fun V x hV => icontains_any V ra rc row x (hs.below hV) hr
  have hiI : (i : Int) < (l : Int) := by omega
  have hiJ : (i : Int) + 1 < (l : Int) + 1 := by omega
  have hil1 : i + 1 < l + 1 := by omega
  have o0' := fun o => cell_up o0 o
  have o1' := fun o => cell_up o1 o
  have o2' := fun o => cell_up o2 o
  have o3' := fun o => cell_up o3 o
  have hrow' := fun o => cell_up hrow o
  have hrow'' := fun o o' => cell_up (hrow' o) o'
  obtain ⟨W2, hW2⟩ : ∃ V, (W.alloc (.cells #[.slice (some ⟨cb, co, none⟩) l cc, .slice (some ⟨hb, ho, none⟩) (l + 1) hc] 65)).alloc (.cells #[.int .i64 x0, .int .i64 x1, .int .i64 x2, .int .i64 x3] 44) = V := ⟨_, rfl⟩
  have hb2 : Below W.heap.size W W2 := by rw [← hW2]; exact (low1 _ _).alloc (by simp) _
  have hn2 : W2.heap[W.heap.size]? = some (.cells #[.slice (some ⟨cb, co, none⟩) l cc, .slice (some ⟨hb, ho, none⟩) (l + 1) hc] 65) := by rw [← hW2]; exact box_later (heap_alloc_new _ _) _
  have hi2 : W2.heap[W.heap.size + 1]? = some (.cells #[.int .i64 x0, .int .i64 x1, .int .i64 x2, .int .i64 x3] 44) := by
    rw [← hW2]
    have := heap_alloc_new (W.alloc (.cells #[.slice (some ⟨cb, co, none⟩) l cc, .slice (some ⟨hb, ho, none⟩) (l + 1) hc] 65)) (.cells #[.int .i64 x0, .int .i64 x1, .int .i64 x2, .int .i64 x3] 44)
    rwa [World.size_alloc] at this
  have HAT : Hid (∀ V, Below W2.heap.size W2 V → Below W.heap.size W V ∧ (∀ o, (V.alloc o).cell? ⟨W.heap.size, 1, none⟩ = some (.slice (some ⟨hb, ho, none⟩) (l + 1) hc)) ∧ (∀ o, (V.alloc o).cell? ⟨hb, ho + (i + 1), none⟩ = some (.slice ra row.length rc)) ∧ (∀ o j, j < 4 → (V.alloc o).cell? ⟨W.heap.size + 1, j, none⟩ = some (.int .i64 ([x0, x1, x2, x3].getD j 0))) ∧ V.cell? ⟨W.heap.size, 1, none⟩ = some (.slice (some ⟨hb, ho, none⟩) (l + 1) hc) ∧ V.cell? ⟨hb, ho + (i + 1), none⟩ = some (.slice ra row.length rc) ∧ (∀ j, j < 4 → V.cell? ⟨W.heap.size + 1, j, none⟩ = some (.int .i64 ([x0, x1, x2, x3].getD j 0)))) := fun V hV => by
    have h1 := (hV.block _ (box_lt hn2)).trans hn2
    have h2 := (hV.block _ (box_lt hi2)).trans hi2
    have h3 := hb2.trans (hV.mono hb2.size)
    have h4 := (h3.cell (lt_of_cell hrow)).trans hrow
    have h5 : ∀ j, j < 4 → V.cell? ⟨W.heap.size + 1, j, none⟩ = some (.int .i64 ([x0, x1, x2, x3].getD j 0)) := fun j hj => by
      rcases (by omega : j = 0 ∨ j = 1 ∨ j = 2 ∨ j = 3) with rfl | rfl | rfl | rfl
      all_goals exact box_cell h2 rfl
    exact ⟨h3, fun o => cell_up (box_cell h1 rfl) o, fun o => cell_up h4 o, fun o j hj => cell_up (h5 j hj) o, box_cell h1 rfl, h4, h5⟩
  have HW2 := Hid.out (p := Hid _) hW2
  obtain ⟨LL, hLL⟩ : ∃ b, bDrop (decide (1 ≤ x0 ∧ x0 ≤ 8) && !decide (x1 ∈ row)) (x0, x1, x2, x3) = b := ⟨_, rfl⟩
  have HLL := Hid.out (p := Hid _) hLL
  rw [hLL]
  clear hLL
  clear hs hW2 hb2 hn2 hi2
  go_enter Tryd.func33, Tryd.ntmps33
  go_wp2_with fail
  rw [HW2.out]
  clear o0 o1 o2 o3 o0' o1' o2' o3' hrow hrow' hrow'' HW2
  refine Calls.mono (HWR.out _) ?_
  rintro e w1 ⟨hr1, hb1⟩
  obtain ⟨q0, q1, q2, q3, q4, q5, q6⟩ := HAT.out w1 hb1
  have i0 := q6 0 (by omega)
  have i1 := q6 1 (by omega)
  have i2 := q6 2 (by omega)
  have i3 := q6 3 (by omega)
  simp only [List.getD_cons_zero, List.getD_cons_succ] at i0 i1 i2 i3
  have HB1 := Hid.out (p := Hid _) (And.intro hb1 q0)
  clear hb1 q0 q1 q2 q3 q6
  rcases hr1 with ⟨x, rfl, hx⟩ | ⟨rfl, hx⟩
  · go_wp2_with fail
    refine Calls.mono (HDN.out _) ?_
    rintro e w2 ⟨rfl, rfl⟩
    obtain ⟨d, hd⟩ : ∃ d, (decide (x0 = 1) || decide (x0 = 8) || (decide (2 ≤ x0) && decide (x0 ≤ 7))) = d := ⟨_, rfl⟩
    have HD := Hid.out (p := Hid _) hd
    rw [hd]
    clear hd
    cases d with
    | true =>
      have hx1 : x = x1 ∧ (1 ≤ x0 ∧ x0 ≤ 8) := by
        have h1 := HD.out
        simp only [Bool.or_eq_true, Bool.and_eq_true, decide_eq_true_eq] at h1
        have h2 := hx.out
        unfold wrL at h2
        rw [if_pos (by omega)] at h2
        exact ⟨h2, by omega⟩
      obtain ⟨rfl, h18⟩ := hx1
      obtain ⟨mm, hmm⟩ : ∃ b, decide (x ∈ row) = b := ⟨_, rfl⟩
      have HMM := Hid.out (p := Hid _) hmm
      have HL2 : Hid (bDrop (!mm) (x0, x, x2, x3) = LL) := by
        have h := HLL.out
        rw [show (decide (1 ≤ x0 ∧ x0 ≤ 8)) = true from decide_eq_true h18, hmm, Bool.true_and] at h
        exact h
      clear hmm h18 hx HLL
      go_wp2_with fail
      refine Calls.mono (HCN.out _ _ HB1.out.2) ?_
      rintro e w3 ⟨rfl, hb3⟩
      rw [HMM.out]
      obtain ⟨q0, -, -, -, -, -, q6⟩ := HAT.out w3 (HB1.out.1.trans (hb3.mono HB1.out.1.size))
      have j0 := q6 0 (by omega)
      have j1 := q6 1 (by omega)
      have j2 := q6 2 (by omega)
      have j3 := q6 3 (by omega)
      simp only [List.getD_cons_zero, List.getD_cons_succ] at j0 j1 j2 j3
      have HB3 := Hid.out (p := Hid _) q0
      clear q0 q6 hb3 i0 i1 i2 i3 q4 q5
      cases mm with
      | true =>
        go_wp2_with fail
        go_ret
        rw [← HL2.out]
        exact ⟨_, _, rfl, srcL_one (x := (x0, x, x2, x3)), HB3.out.alloc HB3.out.size _⟩
      | false =>
        go_wp2_with fail
        go_ret
        rw [← HL2.out]
        exact ⟨_, _, rfl, srcL_nil _ _, HB3.out⟩
    | false =>
      have h18 : ¬ (1 ≤ x0 ∧ x0 ≤ 8) := by
        have h1 := HD.out
        simp only [Bool.or_eq_false_iff, Bool.and_eq_false_iff, decide_eq_false_iff_not] at h1
        omega
      have HL2 : Hid (bDrop false (x0, x1, x2, x3) = LL) := by
        have h := HLL.out
        rw [show (decide (1 ≤ x0 ∧ x0 ≤ 8)) = false from decide_eq_false h18, Bool.false_and] at h
        exact h
      clear h18 HLL
      go_wp2_with fail
      go_ret
      rw [← HL2.out]
      exact ⟨_, _, rfl, srcL_one (x := (x0, x1, x2, x3)), HB1.out.2.alloc HB1.out.2.size _⟩
  · have h18 : ¬ (1 ≤ x0 ∧ x0 ≤ 8 ∧ x1 ≠ -1) := by
      have h2 := hx.out
      unfold wrL at h2
      intro h
      rw [if_pos (by omega)] at h2
      exact h.2.2 h2
    have HL2 : Hid (bDrop false (x0, x1, x2, x3) = LL) := by
      have h := HLL.out
      rw [show (decide (1 ≤ x0 ∧ x0 ≤ 8)) = false from decide_eq_false (fun h => h18 ⟨h.1, h.2, hne h⟩), Bool.false_and] at h
      exact h
    clear h18 HLL
    go_wp2_with fail
    go_ret
    rw [← HL2.out]
    exact ⟨_, _, rfl, srcL_one (x := (x0, x1, x2, x3)), HB1.out.2.alloc HB1.out.2.size _⟩

end Go.Proofs.YtkailbdjilkneaaDoor
