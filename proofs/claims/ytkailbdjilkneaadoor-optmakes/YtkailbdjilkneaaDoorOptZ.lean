/-
  All values go one way on, by the program.
  What an order becomes, by the program.
  What an order becomes by what is known, by the program.
-/
import Derived.Test.YtkailbdjilkneaaDoorOptT
import Derived.Test.YtkailbdjilkneaaDoorOptS
namespace Go.Proofs.YtkailbdjilkneaaDoor
section
open Go.RowKit

section
variable {w W W' : World} {fb ga ac l cc rg : Nat} {ca : Option Addr} {MB : Nat → Nat} {ov ov' : Value} {E : Nat → Nat → Vl} {O : List (Nat × Nat)}
theorem FlV.look (h : FlV w W fb ga ac l cc rg ca MB ov E O) {i r : Nat} (hi : i ≤ l) (hr : r < rg) (hrg : rg ≤ 1000) : (Instr.lookup 110 (.map (some (MB i))) (.int .i64 (r : Int)) false).run Tryd.prog W = .ok (.agg #[.int .i64 ((E i r).st : Int), .int .i64 (E i r).nb]) W := by
  obtain ⟨n, h1, _⟩ := h.mp i hi
  exact h1.look hr hrg
end
set_option maxRecDepth 100000 in
set_option maxHeartbeats 1600000 in
/-- All registers of a go to j: what is told of what is still to be done is carried over (Z). -/
theorem fall_any (w W : World) (fb ga ac l cc rg : Nat) (ca : Option Addr) (MB : Nat → Nat) (ov : Value) (E : Nat → Nat → Vl) (O : List (Nat × Nat)) (h : FlV w W fb ga ac l cc rg ca MB ov E O) (a j : Nat) (ha : a ≤ l) (hj : j ≤ l) (hrg : rg ≤ 200)
    (Z : Nat → (Nat → Nat → Vl) → List (Nat × Nat) → Prop) (hz0 : Z 0 E O) (hz : ∀ r E O, r < rg → Z r E O → Z (r + 1) (updE E j r ((E j r).meet (E a r))) (newO E j r (E a r) O)) :
    Calls Tryd.prog 103 #[.pointer (some ⟨fb, 0, none⟩), .map (some (MB a)), .int .i64 (j : Int)] W fun e w' => ∃ ov' E' O', e = .returned (.tuple #[]) ∧ FlV w w' fb ga ac l cc rg ca MB ov' E' O' ∧ KpF W w' fb ov ov' ∧ Z rg E' O' := by
  have HI := Hid.out (p := Hid _) (And.intro h (And.intro hz0 hz))
  have c1 : W.cell? ⟨fb, 1, none⟩ = some (.int .i64 (rg : Int)) := box_cell h.box rfl
  clear h hz0 hz
  go_enter Tryd.func103, Tryd.ntmps103
  go_wp2_with fail
  go_loopw [11] (fun x wr => ∃ (r : Nat) (ov1 : Value) (E1 : Nat → Nat → Vl) (O1 : List (Nat × Nat)), r ≤ rg ∧ x = .int .i64 r ∧ Hid (FlV w wr fb ga ac l cc rg ca MB ov1 E1 O1 ∧ KpF W wr fb ov ov1 ∧ Z r E1 O1)) (fun x _ => rg - (intOf x).toNat)
  case atStart => exact ⟨0, ov, E, O, Nat.zero_le _, rfl, HI.out.1, KpF.refl _ _ _, HI.out.2.1⟩
  case round =>
    obtain ⟨r, ov1, E1, O1, hr, rfl, HL⟩ := hrel
    by_cases hlt : r < rg
    · have hlt' : (r : Int) < (rg : Int) := by omega
      have lk := HL.out.1.look ha hlt (by omega)
      have HM := Hid.out (p := Hid _) (fmeet_any w wr fb ga ac l cc rg ca MB ov1 E1 O1 HL.out.1 j r hj hlt hrg (E1 a r))
      obtain ⟨x, hx⟩ : ∃ x, E1 a r = x := ⟨_, rfl⟩
      have HX := Hid.out (p := Hid _) hx
      rw [hx] at lk HM
      obtain ⟨mb, hmb⟩ : ∃ m, MB a = m := ⟨_, rfl⟩
      rw [hmb] at lk ⊢
      clear c1 hx
      go_wp2_with fail
      refine Calls.mono HM.out ?_
      rintro e w5 ⟨ov2, rfl, h5, k5⟩
      have HN : Hid (FlV w w5 fb ga ac l cc rg ca MB ov2 (updE E1 j r ((E1 j r).meet x)) (newO E1 j r x O1) ∧ KpF W w5 fb ov ov2 ∧ Z (r + 1) (updE E1 j r ((E1 j r).meet x)) (newO E1 j r x O1)) := by
        refine ⟨h5, HL.out.2.1.trans k5, ?_⟩
        rw [← HX.out]
        exact HI.out.2.2 r E1 O1 hlt HL.out.2.2
      clear h5 k5 HM lk
      go_wp2_with fail
      go_roundw
      case rel => exact ⟨r + 1, ov2, _, _, by omega, by go_num, HN.out⟩
      case measure => simp [intOf]; omega
    · obtain rfl : r = rg := by omega
      go_wp2_with fail
      go_end0
      exact ⟨ov1, E1, O1, rfl, HL.out⟩
end

section
open Go.RowKit

/-- What an OpZero becomes by the value that it asks for. -/
def dcL (op a b c : Int) (v : Vl) : List I4 := match v with | .num n => if n = 0 then [(14, b, 0, 0)] else [] | _ => [(op, a, b, c)]
theorem srcL_one {w : World} {x : I4} : SrcL (w.alloc (.cells #[.int .i64 x.1, .int .i64 x.2.1, .int .i64 x.2.2.1, .int .i64 x.2.2.2] 44)) (some ⟨w.heap.size, 0, none⟩) (cellsT [x]) := srcL_block (heap_alloc_new w _)
set_option maxRecDepth 100000 in
set_option maxHeartbeats 1600000 in
theorem decided_any (w : World) (op a b c : Int) (v : Vl) :
    Calls Tryd.prog 62 #[.agg #[.int .i64 op, .int .i64 a, .int .i64 b, .int .i64 c], .agg #[.int .i64 (v.st : Int), .int .i64 v.nb]] w fun e w' => ∃ sa cp, e = .returned (.slice sa (dcL op a b c v).length cp) ∧ SrcL w' sa (cellsT (dcL op a b c v)) ∧ Below w.heap.size w w' := by
  obtain ⟨s, hs⟩ : ∃ x : Int, (v.st : Int) = x := ⟨_, rfl⟩
  obtain ⟨k, hk⟩ : ∃ x : Int, v.nb = x := ⟨_, rfl⟩
  rw [hs, hk]
  obtain ⟨W, hW⟩ : ∃ V, (w.alloc (.cells #[.int .i64 op, .int .i64 a, .int .i64 b, .int .i64 c] 44)).alloc (.cells #[.int .i64 s, .int .i64 k] 116) = V := ⟨_, rfl⟩
  have hbW : Below w.heap.size w W := by rw [← hW]; exact low2 _ _ _
  have hib : W.heap[w.heap.size]? = some (.cells #[.int .i64 op, .int .i64 a, .int .i64 b, .int .i64 c] 44) := by rw [← hW]; exact box_later (heap_alloc_new _ _) _
  have hvb : W.heap[w.heap.size + 1]? = some (.cells #[.int .i64 s, .int .i64 k] 116) := by
    rw [← hW]
    have := heap_alloc_new (w.alloc (.cells #[.int .i64 op, .int .i64 a, .int .i64 b, .int .i64 c] 44)) (.cells #[.int .i64 s, .int .i64 k] 116)
    rwa [World.size_alloc] at this
  have HW := Hid.out (p := Hid _) hW
  have HAC : Hid (∀ V, Below W.heap.size W V → Calls Tryd.prog 60 #[.int .i64 0] V fun e w' => e = .returned (.agg #[.int .i64 1, .int .i64 0]) ∧ Hid (Below w.heap.size w w') ∧ (w'.cell? ⟨w.heap.size + 1, 0, none⟩ = some (.int .i64 s) ∧ w'.cell? ⟨w.heap.size + 1, 1, none⟩ = some (.int .i64 k)) ∧ w'.cell? ⟨w.heap.size, 0, none⟩ = some (.int .i64 op) ∧ w'.cell? ⟨w.heap.size, 1, none⟩ = some (.int .i64 a) ∧ w'.cell? ⟨w.heap.size, 2, none⟩ = some (.int .i64 b) ∧ w'.cell? ⟨w.heap.size, 3, none⟩ = some (.int .i64 c)) := fun V hV => (always_any 0 V).mono fun e w' ⟨h1, h2⟩ => by
    have hb := hV.trans (h2.mono hV.size)
    have e1 := (hb.block _ (box_lt hvb)).trans hvb
    have e2 := (hb.block _ (box_lt hib)).trans hib
    exact ⟨h1, hbW.trans (hb.mono hbW.size), ⟨box_cell e1 rfl, box_cell e1 rfl⟩, box_cell e2 rfl, box_cell e2 rfl, box_cell e2 rfl, box_cell e2 rfl⟩
  have v0 : W.cell? ⟨w.heap.size + 1, 0, none⟩ = some (.int .i64 s) := box_cell hvb rfl
  have v1 : W.cell? ⟨w.heap.size + 1, 1, none⟩ = some (.int .i64 k) := box_cell hvb rfl
  clear hW hbW hib hvb
  rcases (by by_cases h : v.st = 1
             · by_cases h2 : v.nb = 0
               · exact Or.inl ⟨h, h2⟩
               · exact Or.inr (Or.inl ⟨h, h2⟩)
             · exact Or.inr (Or.inr h) : (v.st = 1 ∧ v.nb = 0) ∨ (v.st = 1 ∧ v.nb ≠ 0) ∨ v.st ≠ 1) with ⟨h1, h2⟩ | ⟨h1, h2⟩ | h1
  · have hd : dcL op a b c v = [(14, b, 0, 0)] := by rw [Vl.st_num.1 h1, h2]; rfl
    rw [hd]
    obtain rfl : s = 1 := by rw [← hs, h1]; rfl
    obtain rfl : k = 0 := by rw [← hk, h2]
    clear hs hk h1 h2 hd
    go_enter Tryd.func62, Tryd.ntmps62
    go_wp2_with fail
    rw [HW.out]
    go_region_with (go_at_call 60; refine Calls.mono (HAC.out _ (Below.refl _ _).drew) ?_; rintro e w5 ⟨rfl, hb5, ⟨q0, q1⟩, i0, i1, i2, i3⟩)
    all_goals go_wp2_with fail
    all_goals go_ret
    all_goals exact ⟨_, _, rfl, srcL_one (x := (14, b, 0, 0)), hb5.out.alloc hb5.out.size _⟩
  · have hd : dcL op a b c v = [] := by
      rw [Vl.st_num.1 h1]
      unfold dcL
      simp only
      rw [if_neg h2]
    rw [hd]
    obtain rfl : s = 1 := by rw [← hs, h1]; rfl
    have hk0 : (k == 0) = false := by rw [← hk]; simpa using h2
    clear hs hk h1 h2 hd
    go_enter Tryd.func62, Tryd.ntmps62
    go_wp2_with fail
    rw [HW.out]
    go_region_with (go_at_call 60; refine Calls.mono (HAC.out _ (Below.refl _ _).drew) ?_; rintro e w5 ⟨rfl, hb5, ⟨q0, q1⟩, i0, i1, i2, i3⟩)
    all_goals go_wp2_with fail
    all_goals go_ret
    all_goals exact ⟨_, _, rfl, srcL_nil _ _, hb5.out⟩
  · have hd : dcL op a b c v = [(op, a, b, c)] := by
      cases v with
      | num n => exact absurd rfl h1
      | no => rfl
      | any => rfl
    rw [hd]
    have hs1 : (s == 1) = false := by
      rw [← hs]
      have : (v.st : Int) ≠ 1 := by omega
      simpa using this
    clear hs hk h1 hd
    go_enter Tryd.func62, Tryd.ntmps62
    go_wp2_with fail
    rw [HW.out]
    go_region_with (go_at_call 60; refine Calls.mono (HAC.out _ (Below.refl _ _).drew) ?_; rintro e w5 ⟨rfl, hb5, ⟨q0, q1⟩, i0, i1, i2, i3⟩)
    all_goals go_wp2_with fail
    all_goals go_ret
    all_goals exact ⟨_, _, rfl, srcL_one (x := (op, a, b, c)), hb5.out.alloc hb5.out.size _⟩
end

section
open Go.RowKit

set_option maxRecDepth 100000 in
set_option maxHeartbeats 1600000 in
theorem fbecome_any (w W : World) (fb ga ac l cc rg m lk : Nat) (ca : Option Addr) (MB : Nat → Nat) (ov : Value) (E : Nat → Nat → Vl) (O : List (Nat × Nat)) (X : Nat → Nat → Int) (i : Nat) (h : FlV w W fb ga ac l cc rg ca MB ov E O) (_ : l ≤ 1000) (hrg0 : 0 < rg) (hrg : rg ≤ 200) (hord : OrdAt w ca i (X i 0) (X i 1) (X i 2) (X i 3)) (hE : ordE rg m lk l (X i 0) (X i 1) (X i 2) (X i 3) = 0) (hi : i < l) (hth : E i 0 = .no → ∀ r, r < rg → E i r = .no) :
    Calls Tryd.prog 30 #[.pointer (some ⟨fb, 0, none⟩), .int .i64 (i : Int)] W fun e w' => ∃ sa cp, e = .returned (.slice sa (bConX X i (E i)).length cp) ∧ SrcL w' sa (cellsT (bConX X i (E i))) ∧ Below W.heap.size W w' := by
  obtain ⟨n0, hmp0, -⟩ := h.mp i (by omega)
  obtain ⟨x0, hx0⟩ : ∃ v, X i 0 = v := ⟨_, rfl⟩
  obtain ⟨x1, hx1⟩ : ∃ v, X i 1 = v := ⟨_, rfl⟩
  obtain ⟨x2, hx2⟩ : ∃ v, X i 2 = v := ⟨_, rfl⟩
  obtain ⟨x3, hx3⟩ : ∃ v, X i 3 = v := ⟨_, rfl⟩
  have hbl : bConX X i (E i) = if E i 0 = .no then [] else if x0 = 15 then dcL x0 x1 x2 x3 (E i x1.toNat) else if 2 ≤ x0 ∧ x0 ≤ 7 then (match mkV x0 x2 x3 (E i) with | .num n => [(1, x1, n, 0)] | _ => [(x0, x1, x2, x3)]) else [(x0, x1, x2, x3)] := by
    unfold bConX dcL
    rw [hx0, hx1, hx2, hx3]
    by_cases h0 : E i 0 = .no
    · rw [if_pos h0, if_pos h0]
    · rw [if_neg h0, if_neg h0]
      by_cases h15 : x0 = 15
      · rw [if_pos h15, if_pos h15]
        cases E i x1.toNat <;> rfl
      · rw [if_neg h15, if_neg h15]
        by_cases h27 : 2 ≤ x0 ∧ x0 ≤ 7
        · rw [if_pos (by omega), if_pos h27]
          cases mkV x0 x2 x3 (E i) <;> rfl
        · rw [if_neg (by omega), if_neg h27]
  rw [hx0, hx1, hx2, hx3] at hord hE
  obtain ⟨cb, co, rfl, o0, o1, o2, o3⟩ := hord.below h.low
  have a0 := h.at (i := i) (by omega)
  have c0 : W.cell? ⟨fb, 0, none⟩ = some (.slice (some ⟨cb, co, none⟩) l cc) := box_cell h.box rfl
  have c2 : W.cell? ⟨fb, 2, none⟩ = some (.slice (some ⟨ga, 0, none⟩) (l + 1) ac) := box_cell h.box rfl
  obtain ⟨mb, hmb⟩ : ∃ q, MB i = q := ⟨_, rfl⟩
  rw [hmb] at a0 hmp0
  have hiI : (i : Int) < (l : Int) := by omega
  have hiJ : (i : Int) < (l : Int) + 1 := by omega
  have hil1 : i < l + 1 := by omega
  have c0' := fun o => cell_up c0 o
  have c2' := fun o => cell_up c2 o
  have a0' := fun o => cell_up a0 o
  have o0' := fun o => cell_up o0 o
  have o1' := fun o => cell_up o1 o
  have o2' := fun o => cell_up o2 o
  have o3' := fun o => cell_up o3 o
  obtain ⟨W1, hW1⟩ : ∃ V, (W.alloc (.cells #[.int .i64 x0, .int .i64 x1, .int .i64 x2, .int .i64 x3] 44)).drew = V := ⟨_, rfl⟩
  have hb1 : Below W.heap.size W W1 := by rw [← hW1]; exact (low1 _ _).drew
  have ho1 : W1.heap[W.heap.size]? = some (.cells #[.int .i64 x0, .int .i64 x1, .int .i64 x2, .int .i64 x3] 44) := by rw [← hW1]; exact heap_alloc_new _ _
  have hm1 := hmp0.keep (hb1.block _ hmp0.lt)
  obtain ⟨z, hz, hz0⟩ := hm1.len 3
  have HW1 := Hid.out (p := Hid _) (And.intro hW1 (And.intro hb1 ho1))
  have t0 : W1.cell? ⟨W.heap.size, 0, none⟩ = some (.int .i64 x0) := box_cell ho1 rfl
  have t1 : W1.cell? ⟨W.heap.size, 1, none⟩ = some (.int .i64 x1) := box_cell ho1 rfl
  have t2 : W1.cell? ⟨W.heap.size, 2, none⟩ = some (.int .i64 x2) := box_cell ho1 rfl
  have t3 : W1.cell? ⟨W.heap.size, 3, none⟩ = some (.int .i64 x3) := box_cell ho1 rfl
  rw [hbl]
  have HM1 := Hid.out (p := Hid _) (And.intro hm1 (And.intro hE hth))
  clear h hord hE hmp0 hx0 hx1 hx2 hx3 hbl hmb hW1 hb1 ho1 hm1
  by_cases h0 : E i 0 = .no
  · obtain rfl : z = 0 := hz0.2 (HM1.out.2.2 h0)
    rw [if_pos h0]
    clear h0 hth hz0
    go_enter Tryd.func30, Tryd.ntmps30
    go_wp2_with fail
    go_region
    rw [HW1.out.1]
    clear c0 c2 a0 o0 o1 o2 o3 c0' c2' a0' o0' o1' o2' o3'
    go_wp2
    go_ret
    exact ⟨none, 0, rfl, srcL_nil _ _, HW1.out.2.1⟩
  · have hzn : ((z : Int) == 0) = false := by
      have : z ≠ 0 := fun e => h0 (hz0.1 e 0 hrg0)
      have : (z : Int) ≠ 0 := by omega
      simpa using this
    rw [if_neg h0]
    clear h0 hth hz0
    by_cases h15 : x0 = 15
    · subst h15
      rw [if_pos rfl]
      have hx1 := (ok_zero HM1.out.2.1).1
      obtain ⟨ka, rfl⟩ : ∃ k : Nat, x1 = k := ⟨x1.toNat, by omega⟩
      have lk1 : (Instr.lookup 110 (.map (some mb)) (.int .i64 (ka : Int)) false).run Tryd.prog W1 = .ok (.agg #[.int .i64 ((E i ka).st : Int), .int .i64 (E i ka).nb]) W1 := HM1.out.1.look (by omega) (by omega)
      rw [Int.toNat_natCast]
      obtain ⟨v, hv⟩ : ∃ v, E i ka = v := ⟨_, rfl⟩
      rw [hv] at lk1 ⊢
      have HDC := Hid.out (p := Hid _) (decided_any W1 15 (ka : Int) x2 x3 v)
      clear hx1 hv
      go_enter Tryd.func30, Tryd.ntmps30
      go_wp2_with fail
      go_region
      rw [HW1.out.1]
      clear c0 c2 a0 o0 o1 o2 o3 c0' c2' a0' o0' o1' o2' o3'
      go_wp2_with fail
      refine Calls.mono HDC.out ?_
      rintro e w5 ⟨sa, cp, rfl, h5, hb5⟩
      have H5 := Hid.out (p := Hid _) (And.intro h5 (HW1.out.2.1.trans (hb5.mono HW1.out.2.1.size)))
      clear h5 hb5
      go_wp2_with fail
      refine bodyPost_ret (v := .slice sa (dcL 15 (ka : Int) x2 x3 v).length cp) (by simp [results, Tryd.results30, go_sem]) rfl ⟨sa, cp, rfl, H5.out⟩
    · have h15' : (x0 == 15) = false := by simpa using h15
      rw [if_neg h15]
      have HRE : Hid (∀ V, Calls Tryd.prog 63 #[.int .i64 x0] V fun e w' => e = .returned (.bool (decide (2 ≤ x0) && decide (x0 ≤ 7))) ∧ w' = V) := fun V => reckons_any V x0
      by_cases h27 : 2 ≤ x0 ∧ x0 ≤ 7
      · rw [if_pos h27]
        have hdec : (decide (2 ≤ x0) && decide (x0 ≤ 7)) = true := by simp [h27]
        rw [hdec] at HRE
        obtain ⟨b', c', rfl, rfl, hb', hc'⟩ := rk_regs hrg0 HM1.out.2.1 h27
        rw [← rkV_mk h27]
        obtain ⟨mk, hmk⟩ : ∃ x, rkV x0 (b' : Int) (c' : Int) (E i) = x := ⟨_, rfl⟩
        have HRK : Hid (Calls Tryd.prog 64 #[.agg #[.int .i64 x0, .int .i64 x1, .int .i64 (b' : Int), .int .i64 (c' : Int)], .map (some mb)] W1 fun e w' => e = .returned (.agg #[.int .i64 (mk.st : Int), .int .i64 mk.nb]) ∧ Below W1.heap.size W1 w') := by
          have h := reckoned_any W1 mb rg n0 (E i) x0 x1 b' c' hb' hc' (by omega) h27 HM1.out.1
          rw [hmk] at h
          exact h
        rw [hmk]
        obtain ⟨s, hs⟩ : ∃ x : Int, (mk.st : Int) = x := ⟨_, rfl⟩
        obtain ⟨k, hk⟩ : ∃ x : Int, mk.nb = x := ⟨_, rfl⟩
        rw [hs, hk] at HRK
        obtain ⟨res, hres⟩ : ∃ r, (match mk with | .num n => [(1, x1, n, 0)] | _ => [(x0, x1, (b' : Int), (c' : Int))]) = r := ⟨_, rfl⟩
        rw [hres]
        have HRS : Hid ((s = 1 ∧ res = [(1, x1, k, 0)]) ∨ ((s == 1) = false ∧ res = [(x0, x1, (b' : Int), (c' : Int))])) := by
          cases mk with
          | num n => exact Or.inl ⟨hs.symm, by rw [← hres, ← hk]; rfl⟩
          | no => exact Or.inr ⟨by rw [← hs]; rfl, hres.symm⟩
          | any => exact Or.inr ⟨by rw [← hs]; rfl, hres.symm⟩
        clear hmk hs hk hres h27 hdec
        go_enter Tryd.func30, Tryd.ntmps30
        go_wp2_with fail
        go_region
        rw [HW1.out.1]
        clear c0 c2 a0 o0 o1 o2 o3 c0' c2' a0' o0' o1' o2' o3'
        go_wp2_with fail
        refine Calls.mono (HRE.out _) ?_
        rintro e w' ⟨rfl, rfl⟩
        go_wp2_with fail
        refine Calls.mono HRK.out ?_
        rintro e w5 ⟨rfl, hb5⟩
        have hob := (hb5.block _ (box_lt HW1.out.2.2)).trans HW1.out.2.2
        have q0 : ∀ o, (w5.alloc o).cell? ⟨W.heap.size, 0, none⟩ = some (.int .i64 x0) := fun o => cell_up (box_cell hob rfl) o
        have q1 : ∀ o, (w5.alloc o).cell? ⟨W.heap.size, 1, none⟩ = some (.int .i64 x1) := fun o => cell_up (box_cell hob rfl) o
        have q2 : ∀ o, (w5.alloc o).cell? ⟨W.heap.size, 2, none⟩ = some (.int .i64 (b' : Int)) := fun o => cell_up (box_cell hob rfl) o
        have q3 : ∀ o, (w5.alloc o).cell? ⟨W.heap.size, 3, none⟩ = some (.int .i64 (c' : Int)) := fun o => cell_up (box_cell hob rfl) o
        have HB5 := Hid.out (p := Hid _) (HW1.out.2.1.trans (hb5.mono HW1.out.2.1.size))
        clear hob hb5 t0 t1 t2 t3
        rcases HRS.out with ⟨rfl, rfl⟩ | ⟨hs1, rfl⟩
        · go_wp2_with fail
          go_ret
          have h9 := srcL_one (w := w5.alloc (.cells #[.int .i64 1, .int .i64 k] 116)) (x := (1, x1, k, 0))
          rw [World.size_alloc] at h9
          exact ⟨_, _, rfl, h9, (HB5.out.alloc HB5.out.size _).alloc (by have := HB5.out.size; simp; omega) _⟩
        · go_wp2_with fail
          go_ret
          have h9 := srcL_one (w := w5.alloc (.cells #[.int .i64 s, .int .i64 k] 116)) (x := (x0, x1, (b' : Int), (c' : Int)))
          rw [World.size_alloc] at h9
          exact ⟨_, _, rfl, h9, (HB5.out.alloc HB5.out.size _).alloc (by have := HB5.out.size; simp; omega) _⟩
      · rw [if_neg h27]
        have hdec : (decide (2 ≤ x0) && decide (x0 ≤ 7)) = false := by
          rw [Bool.and_eq_false_iff]
          by_cases h : 2 ≤ x0
          · right; simp; omega
          · left; simp; omega
        rw [hdec] at HRE
        clear h27 hdec
        go_enter Tryd.func30, Tryd.ntmps30
        go_wp2_with fail
        go_region
        rw [HW1.out.1]
        clear c0 c2 a0 o0 o1 o2 o3 c0' c2' a0' o0' o1' o2' o3'
        go_wp2_with fail
        refine Calls.mono (HRE.out _) ?_
        rintro e w' ⟨rfl, rfl⟩
        go_wp2_with fail
        go_ret
        exact ⟨_, _, rfl, srcL_one (x := (x0, x1, x2, x3)), HW1.out.2.1.alloc HW1.out.2.1.size _⟩
end

end Go.Proofs.YtkailbdjilkneaaDoor
