/-
  What an order becomes by what is known, by the program.
-/
import Derived.Test.YtkailbdjilkneaaDoorOptZ
namespace Go.Proofs.YtkailbdjilkneaaDoor
open Go.RowKit

set_option maxRecDepth 100000 in
set_option maxHeartbeats 1600000 in
theorem fbecome_any (w W : World) (fb ga ac l cc rg m lk : Nat) (ca : Option Addr) (MB : Nat → Nat) (ov : Value) (E : Nat → Nat → Vl) (O : List (Nat × Nat)) (X : Nat → Nat → Int) (i : Nat) (h : FlV w W fb ga ac l cc rg ca MB ov E O) (_ : l ≤ 1000) (hrg0 : 0 < rg) (hrg : rg ≤ 200) (hord : OrdAt w ca i (X i 0) (X i 1) (X i 2) (X i 3)) (hE : ordE rg m lk l (X i 0) (X i 1) (X i 2) (X i 3) = 0) (hi : i < l) (hth : E i 0 = .no → ∀ r, r < rg → E i r = .no) :
    Calls Tryd.prog 30 #[.pointer (some ⟨fb, 0, none⟩), .int .i64 (i : Int)] W fun e w' => ∃ sa cp, e = .returned (.slice sa (bConX X i (E i)).length cp) ∧ SrcL w' sa (cellsT (bConX X i (E i))) ∧ Below W.heap.size W w' := by
  obtain ⟨n0, hmp0, -⟩ := h.mp i (by omega)
  obtain ⟨x0, hx0⟩ : ∃ v, X i 0 = v := ⟨_, rfl⟩
  obtain ⟨x1, hx1⟩ : ∃ v, X i 1 = v := ⟨_, rfl⟩
  obtain ⟨x2, hx2⟩ : ∃ v, X i 2 = v := ⟨_, rfl⟩
  obtain ⟨x3, hx3⟩ : ∃ v, X i 3 = v := ⟨_, rfl⟩
  have hbl : bConX X i (E i) = if E i 0 = .no then [] else if x0 = 15 then dcL x0 x1 x2 x3 (E i x1.toNat) else if 2 ≤ x0 ∧ x0 ≤ 7 then (match mkV x0 x2 x3 (E i) with | .num n => [(1, x1, n, 0)] | _ => [(x0, x1, x2, x3)]) else [(x0, x1, x2, x3)] := by
    unfold bConX dcL
    rw [hx0, hx1, hx2, hx3]
    by_cases h0 : E i 0 = .no
    · rw [if_pos h0, if_pos h0]
    · rw [if_neg h0, if_neg h0]
      by_cases h15 : x0 = 15
      · rw [if_pos h15, if_pos h15]
        cases E i x1.toNat <;> rfl
      · rw [if_neg h15, if_neg h15]
        by_cases h27 : 2 ≤ x0 ∧ x0 ≤ 7
        · rw [if_pos (by omega), if_pos h27]
          cases mkV x0 x2 x3 (E i) <;> rfl
        · rw [if_neg (by omega), if_neg h27]
  rw [hx0, hx1, hx2, hx3] at hord hE
  obtain ⟨cb, co, rfl, o0, o1, o2, o3⟩ := hord.below h.low
  have a0 := h.at (i := i) (by omega)
  have c0 : W.cell? ⟨fb, 0, none⟩ = some (.slice (some ⟨cb, co, none⟩) l cc) := box_cell h.box rfl
  have c2 : W.cell? ⟨fb, 2, none⟩ = some (.slice (some ⟨ga, 0, none⟩) (l + 1) ac) := box_cell h.box rfl
  obtain ⟨mb, hmb⟩ : ∃ q, MB i = q := ⟨_, rfl⟩
  rw [hmb] at a0 hmp0
  have hiI : (i : Int) < (l : Int) := by omega
  have hiJ : (i : Int) < (l : Int) + 1 := by omega
  have hil1 : i < l + 1 := by omega
  have c0' := fun o => cell_up c0 o
  have c2' := fun o => cell_up c2 o
  have a0' := fun o => cell_up a0 o
  have o0' := fun o => cell_up o0 o
  have o1' := fun o => cell_up o1 o
  have o2' := fun o => cell_up o2 o
  have o3' := fun o => cell_up o3 o
  obtain ⟨W1, hW1⟩ : ∃ V, (W.alloc (.cells #[.int .i64 x0, .int .i64 x1, .int .i64 x2, .int .i64 x3] 44)).drew = V := ⟨_, rfl⟩
  have hb1 : Below W.heap.size W W1 := by rw [← hW1]; exact (low1 _ _).drew
  have ho1 : W1.heap[W.heap.size]? = some (.cells #[.int .i64 x0, .int .i64 x1, .int .i64 x2, .int .i64 x3] 44) := by rw [← hW1]; exact heap_alloc_new _ _
  have hm1 := hmp0.keep (hb1.block _ hmp0.lt)
  obtain ⟨z, hz, hz0⟩ := hm1.len 3
  have HW1 := Hid.out (p := Hid _) (And.intro hW1 (And.intro hb1 ho1))
  have t0 : W1.cell? ⟨W.heap.size, 0, none⟩ = some (.int .i64 x0) := box_cell ho1 rfl
  have t1 : W1.cell? ⟨W.heap.size, 1, none⟩ = some (.int .i64 x1) := box_cell ho1 rfl
  have t2 : W1.cell? ⟨W.heap.size, 2, none⟩ = some (.int .i64 x2) := box_cell ho1 rfl
  have t3 : W1.cell? ⟨W.heap.size, 3, none⟩ = some (.int .i64 x3) := box_cell ho1 rfl
  rw [hbl]
  have HM1 := Hid.out (p := Hid _) (And.intro hm1 (And.intro hE hth))
  clear h hord hE hmp0 hx0 hx1 hx2 hx3 hbl hmb hW1 hb1 ho1 hm1
  by_cases h0 : E i 0 = .no
  · obtain rfl : z = 0 := hz0.2 (HM1.out.2.2 h0)
    rw [if_pos h0]
    clear h0 hth hz0
    go_enter Tryd.func30, Tryd.ntmps30
    go_wp2_with fail
    go_region
    rw [HW1.out.1]
    clear c0 c2 a0 o0 o1 o2 o3 c0' c2' a0' o0' o1' o2' o3'
    go_wp2
    go_ret
    exact ⟨none, 0, rfl, srcL_nil _ _, HW1.out.2.1⟩
  · have hzn : ((z : Int) == 0) = false := by
      have : z ≠ 0 := fun e => h0 (hz0.1 e 0 hrg0)
      have : (z : Int) ≠ 0 := by omega
      simpa using this
    rw [if_neg h0]
    clear h0 hth hz0
    by_cases h15 : x0 = 15
    · subst h15
      rw [if_pos rfl]
      have hx1 := (ok_zero HM1.out.2.1).1
      obtain ⟨ka, rfl⟩ : ∃ k : Nat, x1 = k := ⟨x1.toNat, by omega⟩
      have lk1 : (Instr.lookup 110 (.map (some mb)) (.int .i64 (ka : Int)) false).run Tryd.prog W1 = .ok (.agg #[.int .i64 ((E i ka).st : Int), .int .i64 (E i ka).nb]) W1 := HM1.out.1.look (by omega) (by omega)
      rw [Int.toNat_natCast]
      obtain ⟨v, hv⟩ : ∃ v, E i ka = v := ⟨_, rfl⟩
      rw [hv] at lk1 ⊢
      have HDC := Hid.out (p := Hid _) (decided_any W1 15 (ka : Int) x2 x3 v)
      clear hx1 hv
      go_enter Tryd.func30, Tryd.ntmps30
      go_wp2_with fail
      go_region
      rw [HW1.out.1]
      clear c0 c2 a0 o0 o1 o2 o3 c0' c2' a0' o0' o1' o2' o3'
      go_wp2_with fail
      refine Calls.mono HDC.out ?_
      rintro e w5 ⟨sa, cp, rfl, h5, hb5⟩
      have H5 := Hid.out (p := Hid _) (And.intro h5 (HW1.out.2.1.trans (hb5.mono HW1.out.2.1.size)))
      clear h5 hb5
      go_wp2_with fail
      refine bodyPost_ret (v := .slice sa (dcL 15 (ka : Int) x2 x3 v).length cp) (by simp [results, Tryd.results30, go_sem]) rfl ⟨sa, cp, rfl, H5.out⟩
    · have h15' : (x0 == 15) = false := by simpa using h15
      rw [if_neg h15]
      have HRE : Hid (∀ V, Calls Tryd.prog 63 #[.int .i64 x0] V fun e w' => e = .returned (.bool (decide (2 ≤ x0) && decide (x0 ≤ 7))) ∧ w' = V) := fun V => reckons_any V x0
      by_cases h27 : 2 ≤ x0 ∧ x0 ≤ 7
      · rw [if_pos h27]
        have hdec : (decide (2 ≤ x0) && decide (x0 ≤ 7)) = true := by simp [h27]
        rw [hdec] at HRE
        obtain ⟨b', c', rfl, rfl, hb', hc'⟩ := rk_regs hrg0 HM1.out.2.1 h27
        rw [← rkV_mk h27]
        obtain ⟨mk, hmk⟩ : ∃ x, rkV x0 (b' : Int) (c' : Int) (E i) = x := ⟨_, rfl⟩
        have HRK : Hid (Calls Tryd.prog 64 #[.agg #[.int .i64 x0, .int .i64 x1, .int .i64 (b' : Int), .int .i64 (c' : Int)], .map (some mb)] W1 fun e w' => e = .returned (.agg #[.int .i64 (mk.st : Int), .int .i64 mk.nb]) ∧ Below W1.heap.size W1 w') := by
          have h := reckoned_any W1 mb rg n0 (E i) x0 x1 b' c' hb' hc' (by omega) h27 HM1.out.1
          rw [hmk] at h
          exact h
        rw [hmk]
        obtain ⟨s, hs⟩ : ∃ x : Int, (mk.st : Int) = x := ⟨_, rfl⟩
        obtain ⟨k, hk⟩ : ∃ x : Int, mk.nb = x := ⟨_, rfl⟩
        rw [hs, hk] at HRK
        obtain ⟨res, hres⟩ : ∃ r, (match mk with | .num n => [(1, x1, n, 0)] | _ => [(x0, x1, (b' : Int), (c' : Int))]) = r := ⟨_, rfl⟩
        rw [hres]
        have HRS : Hid ((s = 1 ∧ res = [(1, x1, k, 0)]) ∨ ((s == 1) = false ∧ res = [(x0, x1, (b' : Int), (c' : Int))])) := by
          cases mk with
          | num n => exact Or.inl ⟨hs.symm, by rw [← hres, ← hk]; rfl⟩
          | no => exact Or.inr ⟨by rw [← hs]; rfl, hres.symm⟩
          | any => exact Or.inr ⟨by rw [← hs]; rfl, hres.symm⟩
        clear hmk hs hk hres h27 hdec
        go_enter Tryd.func30, Tryd.ntmps30
        go_wp2_with fail
        go_region
        rw [HW1.out.1]
        clear c0 c2 a0 o0 o1 o2 o3 c0' c2' a0' o0' o1' o2' o3'
        go_wp2_with fail
        refine Calls.mono (HRE.out _) ?_
        rintro e w' ⟨rfl, rfl⟩
        go_wp2_with fail
        refine Calls.mono HRK.out ?_
        rintro e w5 ⟨rfl, hb5⟩
        have hob := (hb5.block _ (box_lt HW1.out.2.2)).trans HW1.out.2.2
        have q0 : ∀ o, (w5.alloc o).cell? ⟨W.heap.size, 0, none⟩ = some (.int .i64 x0) := fun o => cell_up (box_cell hob rfl) o
        have q1 : ∀ o, (w5.alloc o).cell? ⟨W.heap.size, 1, none⟩ = some (.int .i64 x1) := fun o => cell_up (box_cell hob rfl) o
        have q2 : ∀ o, (w5.alloc o).cell? ⟨W.heap.size, 2, none⟩ = some (.int .i64 (b' : Int)) := fun o => cell_up (box_cell hob rfl) o
        have q3 : ∀ o, (w5.alloc o).cell? ⟨W.heap.size, 3, none⟩ = some (.int .i64 (c' : Int)) := fun o => cell_up (box_cell hob rfl) o
        have HB5 := Hid.out (p := Hid _) (HW1.out.2.1.trans (hb5.mono HW1.out.2.1.size))
        clear hob hb5 t0 t1 t2 t3
        rcases HRS.out with ⟨rfl, rfl⟩ | ⟨hs1, rfl⟩
        · go_wp2_with fail
          go_ret
          have h9 := srcL_one (w := w5.alloc (.cells #[.int .i64 1, .int .i64 k] 116)) (x := (1, x1, k, 0))
          rw [World.size_alloc] at h9
          exact ⟨_, _, rfl, h9, (HB5.out.alloc HB5.out.size _).alloc (by have := HB5.out.size; simp; omega) _⟩
        · go_wp2_with fail
          go_ret
          have h9 := srcL_one (w := w5.alloc (.cells #[.int .i64 s, .int .i64 k] 116)) (x := (x0, x1, (b' : Int), (c' : Int)))
          rw [World.size_alloc] at h9
          exact ⟨_, _, rfl, h9, (HB5.out.alloc HB5.out.size _).alloc (by have := HB5.out.size; simp; omega) _⟩
      · rw [if_neg h27]
        have hdec : (decide (2 ≤ x0) && decide (x0 ≤ 7)) = false := by
          rw [Bool.and_eq_false_iff]
          by_cases h : 2 ≤ x0
          · right; simp; omega
          · left; simp; omega
        rw [hdec] at HRE
        clear h27 hdec
        go_enter Tryd.func30, Tryd.ntmps30
        go_wp2_with fail
        go_region
        rw [HW1.out.1]
        clear c0 c2 a0 o0 o1 o2 o3 c0' c2' a0' o0' o1' o2' o3'
        go_wp2_with fail
        refine Calls.mono (HRE.out _) ?_
        rintro e w' ⟨rfl, rfl⟩
        go_wp2_with fail
        go_ret
        exact ⟨_, _, rfl, srcL_one (x := (x0, x1, x2, x3)), HW1.out.2.1.alloc HW1.out.2.1.size _⟩

end Go.Proofs.YtkailbdjilkneaaDoor
