/-
  An order that nobody needs becomes none, by the program.
  What is found out of a thread for Dead: its orders, and what is live.
  Which orders of a thread nobody needs, by what is told of its registers.
-/
import Derived.Test.YtkailbdjilkneaaDoorOptN
import Derived.Test.YtkailbdjilkneaaDoorOptZ
import Derived.Test.YtkailbdjilkneaaDoorLivC
import Derived.Test.YtkailbdjilkneaaDoorOptCh
import Derived.Test.YtkailbdjilkneaaDoorLivK
namespace Go.Proofs.YtkailbdjilkneaaDoor
section
open Go.RowKit

set_option maxRecDepth 100000 in
set_option maxHeartbeats 1600000 in
theorem nbecome_any (W : World) (ca : Option Addr) (l cc : Nat) (hb ho hc : Nat) (ra : Option Addr) (rc : Nat) (row : List Int) (x0 x1 x2 x3 : Int) (i : Nat) (hl : l ≤ 1000) (hi : i < l) (hop : 1 ≤ x0 ∧ x0 ≤ 18) (hne : 1 ≤ x0 ∧ x0 ≤ 8 → x1 ≠ -1) (hord : OrdAt W ca i x0 x1 x2 x3) (hrow : W.cell? ⟨hb, ho + (i + 1), none⟩ = some (.slice ra row.length rc)) (hs : SIs W ra row) (hr : row.length ≤ 1000) :
    Calls Tryd.prog 33 #[.agg #[.slice ca l cc, .slice (some ⟨hb, ho, none⟩) (l + 1) hc], .int .i64 (i : Int)] W fun e w' => ∃ sa cp, e = .returned (.slice sa (bDrop (decide (1 ≤ x0 ∧ x0 ≤ 8) && !decide (x1 ∈ row)) (x0, x1, x2, x3)).length cp) ∧ SrcL w' sa (cellsT (bDrop (decide (1 ≤ x0 ∧ x0 ≤ 8) && !decide (x1 ∈ row)) (x0, x1, x2, x3))) ∧ Below W.heap.size W w' := by
  obtain ⟨cb, co, rfl, o0, o1, o2, o3⟩ := hord
  have HWR : Hid (∀ V, Calls Tryd.prog 67 #[.agg #[.int .i64 x0, .int .i64 x1, .int .i64 x2, .int .i64 x3]] V fun e w' => ((∃ x, e = .returned (.tuple #[.int .i64 x, .bool true]) ∧ Hid (x = wrL x0 x1 x2)) ∨ (e = .returned (.tuple #[.int .i64 0, .bool false]) ∧ Hid (wrL x0 x1 x2 = -1))) ∧ Below V.heap.size V w') := fun V => (writes_any x0 x1 x2 x3 hop V).mono fun e w' h => by
    refine ⟨?_, h.2⟩
    rcases h.1 with ⟨x, e1, e2, _⟩ | h
    · exact Or.inl ⟨x, e1, e2⟩
    · exact Or.inr h
  have HDN : Hid (∀ V, Calls Tryd.prog 68 #[.int .i64 x0] V fun e w' => e = .returned (.bool (decide (x0 = 1) || decide (x0 = 8) || (decide (2 ≤ x0) && decide (x0 ≤ 7)))) ∧ w' = V) := fun V => doesNoMore_any V x0
  have HCN : Hid (∀ V x, Below W.heap.size W V → Calls Tryd.prog 69 #[.slice ra row.length rc, .int .i64 x] V fun e w' => e = .returned (.bool (decide (x ∈ row))) ∧ Below V.heap.size V w') := fun V x hV => icontains_any V ra rc row x (hs.below hV) hr
  have hiI : (i : Int) < (l : Int) := by omega
  have hiJ : (i : Int) + 1 < (l : Int) + 1 := by omega
  have hil1 : i + 1 < l + 1 := by omega
  have o0' := fun o => cell_up o0 o
  have o1' := fun o => cell_up o1 o
  have o2' := fun o => cell_up o2 o
  have o3' := fun o => cell_up o3 o
  have hrow' := fun o => cell_up hrow o
  have hrow'' := fun o o' => cell_up (hrow' o) o'
  obtain ⟨W2, hW2⟩ : ∃ V, (W.alloc (.cells #[.slice (some ⟨cb, co, none⟩) l cc, .slice (some ⟨hb, ho, none⟩) (l + 1) hc] 65)).alloc (.cells #[.int .i64 x0, .int .i64 x1, .int .i64 x2, .int .i64 x3] 44) = V := ⟨_, rfl⟩
  have hb2 : Below W.heap.size W W2 := by rw [← hW2]; exact (low1 _ _).alloc (by simp) _
  have hn2 : W2.heap[W.heap.size]? = some (.cells #[.slice (some ⟨cb, co, none⟩) l cc, .slice (some ⟨hb, ho, none⟩) (l + 1) hc] 65) := by rw [← hW2]; exact box_later (heap_alloc_new _ _) _
  have hi2 : W2.heap[W.heap.size + 1]? = some (.cells #[.int .i64 x0, .int .i64 x1, .int .i64 x2, .int .i64 x3] 44) := by
    rw [← hW2]
    have := heap_alloc_new (W.alloc (.cells #[.slice (some ⟨cb, co, none⟩) l cc, .slice (some ⟨hb, ho, none⟩) (l + 1) hc] 65)) (.cells #[.int .i64 x0, .int .i64 x1, .int .i64 x2, .int .i64 x3] 44)
    rwa [World.size_alloc] at this
  have HAT : Hid (∀ V, Below W2.heap.size W2 V → Below W.heap.size W V ∧ (∀ o, (V.alloc o).cell? ⟨W.heap.size, 1, none⟩ = some (.slice (some ⟨hb, ho, none⟩) (l + 1) hc)) ∧ (∀ o, (V.alloc o).cell? ⟨hb, ho + (i + 1), none⟩ = some (.slice ra row.length rc)) ∧ (∀ o j, j < 4 → (V.alloc o).cell? ⟨W.heap.size + 1, j, none⟩ = some (.int .i64 ([x0, x1, x2, x3].getD j 0))) ∧ V.cell? ⟨W.heap.size, 1, none⟩ = some (.slice (some ⟨hb, ho, none⟩) (l + 1) hc) ∧ V.cell? ⟨hb, ho + (i + 1), none⟩ = some (.slice ra row.length rc) ∧ (∀ j, j < 4 → V.cell? ⟨W.heap.size + 1, j, none⟩ = some (.int .i64 ([x0, x1, x2, x3].getD j 0)))) := fun V hV => by
    have h1 := (hV.block _ (box_lt hn2)).trans hn2
    have h2 := (hV.block _ (box_lt hi2)).trans hi2
    have h3 := hb2.trans (hV.mono hb2.size)
    have h4 := (h3.cell (lt_of_cell hrow)).trans hrow
    have h5 : ∀ j, j < 4 → V.cell? ⟨W.heap.size + 1, j, none⟩ = some (.int .i64 ([x0, x1, x2, x3].getD j 0)) := fun j hj => by
      rcases (by omega : j = 0 ∨ j = 1 ∨ j = 2 ∨ j = 3) with rfl | rfl | rfl | rfl
      all_goals exact box_cell h2 rfl
    exact ⟨h3, fun o => cell_up (box_cell h1 rfl) o, fun o => cell_up h4 o, fun o j hj => cell_up (h5 j hj) o, box_cell h1 rfl, h4, h5⟩
  have HW2 := Hid.out (p := Hid _) hW2
  obtain ⟨LL, hLL⟩ : ∃ b, bDrop (decide (1 ≤ x0 ∧ x0 ≤ 8) && !decide (x1 ∈ row)) (x0, x1, x2, x3) = b := ⟨_, rfl⟩
  have HLL := Hid.out (p := Hid _) hLL
  rw [hLL]
  clear hLL
  clear hs hW2 hb2 hn2 hi2
  go_enter Tryd.func33, Tryd.ntmps33
  go_wp2_with fail
  rw [HW2.out]
  clear o0 o1 o2 o3 o0' o1' o2' o3' hrow hrow' hrow'' HW2
  refine Calls.mono (HWR.out _) ?_
  rintro e w1 ⟨hr1, hb1⟩
  obtain ⟨q0, q1, q2, q3, q4, q5, q6⟩ := HAT.out w1 hb1
  have i0 := q6 0 (by omega)
  have i1 := q6 1 (by omega)
  have i2 := q6 2 (by omega)
  have i3 := q6 3 (by omega)
  simp only [List.getD_cons_zero, List.getD_cons_succ] at i0 i1 i2 i3
  have HB1 := Hid.out (p := Hid _) (And.intro hb1 q0)
  clear hb1 q0 q1 q2 q3 q6
  rcases hr1 with ⟨x, rfl, hx⟩ | ⟨rfl, hx⟩
  · go_wp2_with fail
    refine Calls.mono (HDN.out _) ?_
    rintro e w2 ⟨rfl, rfl⟩
    obtain ⟨d, hd⟩ : ∃ d, (decide (x0 = 1) || decide (x0 = 8) || (decide (2 ≤ x0) && decide (x0 ≤ 7))) = d := ⟨_, rfl⟩
    have HD := Hid.out (p := Hid _) hd
    rw [hd]
    clear hd
    cases d with
    | true =>
      have hx1 : x = x1 ∧ (1 ≤ x0 ∧ x0 ≤ 8) := by
        have h1 := HD.out
        simp only [Bool.or_eq_true, Bool.and_eq_true, decide_eq_true_eq] at h1
        have h2 := hx.out
        unfold wrL at h2
        rw [if_pos (by omega)] at h2
        exact ⟨h2, by omega⟩
      obtain ⟨rfl, h18⟩ := hx1
      obtain ⟨mm, hmm⟩ : ∃ b, decide (x ∈ row) = b := ⟨_, rfl⟩
      have HMM := Hid.out (p := Hid _) hmm
      have HL2 : Hid (bDrop (!mm) (x0, x, x2, x3) = LL) := by
        have h := HLL.out
        rw [show (decide (1 ≤ x0 ∧ x0 ≤ 8)) = true from decide_eq_true h18, hmm, Bool.true_and] at h
        exact h
      clear hmm h18 hx HLL
      go_wp2_with fail
      refine Calls.mono (HCN.out _ _ HB1.out.2) ?_
      rintro e w3 ⟨rfl, hb3⟩
      rw [HMM.out]
      obtain ⟨q0, -, -, -, -, -, q6⟩ := HAT.out w3 (HB1.out.1.trans (hb3.mono HB1.out.1.size))
      have j0 := q6 0 (by omega)
      have j1 := q6 1 (by omega)
      have j2 := q6 2 (by omega)
      have j3 := q6 3 (by omega)
      simp only [List.getD_cons_zero, List.getD_cons_succ] at j0 j1 j2 j3
      have HB3 := Hid.out (p := Hid _) q0
      clear q0 q6 hb3 i0 i1 i2 i3 q4 q5
      cases mm with
      | true =>
        go_wp2_with fail
        go_ret
        rw [← HL2.out]
        exact ⟨_, _, rfl, srcL_one (x := (x0, x, x2, x3)), HB3.out.alloc HB3.out.size _⟩
      | false =>
        go_wp2_with fail
        go_ret
        rw [← HL2.out]
        exact ⟨_, _, rfl, srcL_nil _ _, HB3.out⟩
    | false =>
      have h18 : ¬ (1 ≤ x0 ∧ x0 ≤ 8) := by
        have h1 := HD.out
        simp only [Bool.or_eq_false_iff, Bool.and_eq_false_iff, decide_eq_false_iff_not] at h1
        omega
      have HL2 : Hid (bDrop false (x0, x1, x2, x3) = LL) := by
        have h := HLL.out
        rw [show (decide (1 ≤ x0 ∧ x0 ≤ 8)) = false from decide_eq_false h18, Bool.false_and] at h
        exact h
      clear h18 HLL
      go_wp2_with fail
      go_ret
      rw [← HL2.out]
      exact ⟨_, _, rfl, srcL_one (x := (x0, x1, x2, x3)), HB1.out.2.alloc HB1.out.2.size _⟩
  · have h18 : ¬ (1 ≤ x0 ∧ x0 ≤ 8 ∧ x1 ≠ -1) := by
      have h2 := hx.out
      unfold wrL at h2
      intro h
      rw [if_pos (by omega)] at h2
      exact h.2.2 h2
    have HL2 : Hid (bDrop false (x0, x1, x2, x3) = LL) := by
      have h := HLL.out
      rw [show (decide (1 ≤ x0 ∧ x0 ≤ 8)) = false from decide_eq_false (fun h => h18 ⟨h.1, h.2, hne h⟩), Bool.false_and] at h
      exact h
    clear h18 HLL
    go_wp2_with fail
    go_ret
    rw [← HL2.out]
    exact ⟨_, _, rfl, srcL_one (x := (x0, x1, x2, x3)), HB1.out.2.alloc HB1.out.2.size _⟩
end

section
open Go.RowKit

set_option maxRecDepth 100000 in
set_option maxHeartbeats 1600000 in
theorem dead1_any (w : World) (pb ab hb hc : Nat) (ra : Option Addr) (rn rc : Nat) (ca : Option Addr) (n cc : Nat) (uv : Value) (lkv rgv : Int) (A : Nat → Option Addr) (L C : Nat → Nat) (X : Nat → Nat → Nat → Int) (hp : PIn w ca n A L C X) (hbx : w.heap[pb]? = some (.cells #[.slice ca n cc, uv, .int .i64 lkv, .int .i64 rgv] 25)) (hab : w.cell? ⟨ab, 0, none⟩ = some (.slice (some ⟨hb, 0, none⟩) n hc)) (t : Nat) (ht : t < n) (hv : w.cell? ⟨hb, t, none⟩ = some (.slice ra rn rc)) :
    Calls Tryd.prog 32 #[.int .i64 (t : Int), .pointer (some ⟨pb, 0, none⟩), .pointer (some ⟨ab, 0, none⟩)] w fun e w' => e = .returned (.func (.func 33) #[.agg #[.slice (A t) (L t) (C t), .slice ra rn rc]] #[]) ∧ Below w.heap.size w w' := by
  obtain ⟨cb, co, rfl, hcell⟩ := hp.code t ht
  have p0 : w.cell? ⟨pb, 0, none⟩ = some (.slice (some ⟨cb, co, none⟩) n cc) := box_cell hbx rfl
  have hti : (t : Int) < (n : Int) := by omega
  obtain ⟨At, hAt⟩ : ∃ a, A t = a := ⟨_, rfl⟩
  obtain ⟨lt, hlt⟩ : ∃ a, L t = a := ⟨_, rfl⟩
  obtain ⟨ct, hct⟩ : ∃ a, C t = a := ⟨_, rfl⟩
  rw [hAt, hlt, hct] at hcell ⊢
  have p0' := fun o => cell_up p0 o
  have hcell' := fun o => cell_up hcell o
  have hab' := fun o => cell_up hab o
  have hv' := fun o => cell_up hv o
  have HB0 : Hid (Below w.heap.size w w) := Below.refl _ _
  clear hp hbx hAt hlt hct
  go_enter Tryd.func32, Tryd.ntmps32
  go_wp2_with fail
  go_region
  all_goals go_wp2_with fail
  all_goals refine bodyPost_ret (v := .func (.func 33) #[.agg #[.slice At lt ct, .slice ra rn rc]] #[]) (by simp [results, Tryd.results32, go_sem]) rfl ⟨rfl, ?_⟩
  all_goals first | exact HB0.out | exact HB0.out.drew
end

section
open Go.RowKit

/-- What the orders of a thread become: one that nobody needs becomes none. -/
def DeaG (X : Nat → Nat → Nat → Int) (L : Nat → Nat) (t : Nat) (bt : Nat → List I4) : Prop := ∀ i, i < L t → ∃ d : Bool, bt i = bDrop d (ordAt X t i) ∧ (d = true ↔ deadO (X t) (L t) i)
theorem ok_low {rg m lk sz : Nat} {op a b c : Int} (h : ordE rg m lk sz op a b c = 0) (ho : 1 ≤ op ∧ op ≤ 8) : 0 ≤ a ∧ a < rg := by
  rcases (by omega : op = 1 ∨ op = 2 ∨ op = 3 ∨ op = 4 ∨ op = 5 ∨ op = 6 ∨ op = 7 ∨ op = 8) with rfl | rfl | rfl | rfl | rfl | rfl | rfl | rfl
  · exact ok_const h
  · exact (ok_rr (by omega) h).1
  · exact (ok_rrr (by omega) h).1
  · exact (ok_rrr (by omega) h).1
  · exact (ok_rrr (by omega) h).1
  · exact (ok_rrr (by omega) h).1
  · exact (ok_rrr (by omega) h).1
  · exact (ok_load h).1
theorem dead_row {X : Nat → Nat → Int} {l i rg m lk : Nat} {S : Nat → Nat} (hrg : rg ≤ 200) (ho : ordE rg m lk l (X i 0) (X i 1) (X i 2) (X i 3) = 0) (hS : ∀ r, has S r = true ↔ Lv X l r (i + 1)) :
    (decide (1 ≤ X i 0 ∧ X i 0 ≤ 8) && !decide (X i 1 ∈ lstP (has S) 256)) = true ↔ deadO X l i := by
  unfold deadO
  simp only [Bool.and_eq_true, decide_eq_true_eq, Bool.not_eq_true', decide_eq_false_iff_not]
  refine ⟨fun ⟨h1, h2⟩ => ⟨h1, fun r hr hl => h2 ?_⟩, fun ⟨h1, h2⟩ => ⟨h1, fun hm => ?_⟩⟩
  · have := (ok_low ho h1).2
    rw [hr]
    exact lstP_in (by omega) ((hS r).2 hl)
  · obtain ⟨r, e, _, hr⟩ := lstP_mem hm
    exact h2 r e ((hS r).1 hr)

theorem deadF_any (w : World) (pb ab : Nat) (ca : Option Addr) (n cc m lk rg : Nat) (uv : Value) (lkv : Int) (A : Nat → Option Addr) (L C : Nat → Nat) (X : Nat → Nat → Nat → Int) (hp : PIn w ca n A L C X) (hc : COk n L X m lk rg) (hbx : w.heap[pb]? = some (.cells #[.slice ca n cc, uv, .int .i64 lkv, .int .i64 (rg : Int)] 25)) (B : Nat) (u : Value) (ysss : List (List (List Int))) (hO : O3 w B u ysss) (hlen : ysss.length = n) (hS : ∀ t, t < n → ∃ S, (∀ i r, has (S i) r = true ↔ Lv (X t) (L t) r i) ∧ ysss.getD t [] = tellS S (L t + 1)) (hab : w.cell? ⟨ab, 0, none⟩ = some u) :
    ∀ V, Below w.heap.size w V → ∀ t, t < n → Calls Tryd.prog 32 (#[.int .i64 (t : Int)] ++ #[.pointer (some ⟨pb, 0, none⟩), .pointer (some ⟨ab, 0, none⟩)]) V fun e w' => ∃ bnd bt, e = .returned (.func (.func 33) bnd #[]) ∧ Below V.heap.size V w' ∧ DeaG X L t bt ∧ BecV w w' 33 bnd (L t) bt := fun V hV t ht => by
  obtain ⟨S, hS1, hS2⟩ := hS t ht
  obtain ⟨ua, uc, rfl⟩ := hO.form
  obtain ⟨hb, x, rfl, -, hx1, hx2⟩ := hO.at (k := t) (by omega)
  rw [hlen] at hab
  obtain ⟨ra, rc, rfl⟩ := hx2.form
  rw [hS2, tellS_len] at hx1
  rw [hS2] at hx2
  rw [tellS_len] at hx2
  refine (dead1_any V pb ab hb uc ra (L t + 1) rc ca n cc uv lkv rg A L C X (hp.below hV) ((hV.block _ (box_lt hbx)).trans hbx) ((hV.cell (lt_of_cell hab)).trans hab) t ht ((hV.cell (lt_of_cell hx1)).trans hx1)).mono ?_
  rintro e w' ⟨rfl, hb'⟩
  refine ⟨_, fun i => bDrop (decide (1 ≤ X t i 0 ∧ X t i 0 ≤ 8) && !decide (X t i 1 ∈ lstP (has (S (i + 1))) 256)) (ordAt X t i), rfl, hb', fun i hi => ⟨_, rfl, dead_row hc.rg2 (hc.ord t i ht hi) (hS1 (i + 1))⟩, fun U hU _ i hi => ?_⟩
  have hxU := hx2.below hU
  obtain ⟨g, y, e, -, hy1, hy2⟩ := hxU.at (k := i + 1) (by rw [tellS_len]; omega)
  subst e
  rw [tellS_at (by omega)] at hy2
  obtain ⟨ya, yc, rfl⟩ := hy2.form
  have ho := hc.ord t i ht hi
  refine nbecome_any U (A t) (L t) (C t) g 0 rc ya yc (lstP (has (S (i + 1))) 256) (X t i 0) (X t i 1) (X t i 2) (X t i 3) i (hc.L4 t ht) hi (ok_op ho) (fun h h1 => ?_) ((hp.below hU).ord t i ht hi) ?_ hy2.sis ?_
  · have := (ok_low ho h).1
    omega
  · rw [Nat.zero_add]
    exact hy1
  · have := lstP_len (has (S (i + 1))) 256
    omega
end

end Go.Proofs.YtkailbdjilkneaaDoor
