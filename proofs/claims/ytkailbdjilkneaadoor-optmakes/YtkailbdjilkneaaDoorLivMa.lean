/-
  What the program tells of all threads: which registers are live.
  Dead, by the program.
-/
import Derived.Test.YtkailbdjilkneaaDoorLivK
import Derived.Test.YtkailbdjilkneaaDoorLivF
import Derived.Test.YtkailbdjilkneaaDoorOptDb
import Derived.Test.YtkailbdjilkneaaDoorOptCh
import Derived.Test.YtkailbdjilkneaaDoorNewC
import Derived.Test.YtkailbdjilkneaaDoorCheckA
namespace Go.Proofs.YtkailbdjilkneaaDoor
section
open Go.RowKit Go.Shelf

theorem O3.low {w : World} {B B' : Nat} {u : Value} {ysss : List (List (List Int))} (h : O3 w B u ysss) (hB : B' ≤ B) : O3 w B' u ysss := by
  obtain ⟨xs, h1, h2⟩ := h
  exact ⟨xs, own_low h1 hB, fun k hk => (h2 k hk).low hB⟩
set_option maxRecDepth 100000 in
set_option maxHeartbeats 3200000 in
theorem aheadP_no (w : World) (ca : Option Addr) (n cc : Nat) (wa : Option Addr) (m wc : Nat) (lk rg x y z : Int) (hx : x ≠ 0) (HC : Hid (∀ W, Below w.heap.size w W → Calls Tryd.prog 26 #[prgV ca n cc wa m wc lk rg] W fun e w' => e = .returned (ints3 x y z) ∧ Below W.heap.size W w')) :
    Calls Tryd.prog 31 #[prgV ca n cc wa m wc lk rg] w fun e w' => e = .returned (.tuple #[nilV, ints3 x y z]) ∧ Below w.heap.size w w' := by
  have HB := Hid.out (p := Hid _) (below_two w (.cells #[.slice ca n cc, .slice wa m wc, .int .i64 lk, .int .i64 rg] 25) (.cells #[.int .i64 0, .int .i64 0, .int .i64 0] 29))
  have HTO : Hid (∀ fv, Calls Tryd.prog 65 #[prgV ca n cc wa m wc lk rg, fv] ((w.alloc (.cells #[.slice ca n cc, .slice wa m wc, .int .i64 lk, .int .i64 rg] 25)).alloc (.cells #[.int .i64 0, .int .i64 0, .int .i64 0] 29)) fun e w' => e = .returned (.tuple #[nilV, ints3 x y z]) ∧ Below ((w.alloc (.cells #[.slice ca n cc, .slice wa m wc, .int .i64 lk, .int .i64 rg] 25)).alloc (.cells #[.int .i64 0, .int .i64 0, .int .i64 0] 29)).heap.size ((w.alloc (.cells #[.slice ca n cc, .slice wa m wc, .int .i64 lk, .int .i64 rg] 25)).alloc (.cells #[.int .i64 0, .int .i64 0, .int .i64 0] 29)) w') := fun fv => told_no _ fv ca n cc wa m wc lk rg x y z hx (fun W hW => HC.out W (HB.out.trans (hW.mono HB.out.size)))
  have HFB : Hid (∀ V, Below ((w.alloc (.cells #[.slice ca n cc, .slice wa m wc, .int .i64 lk, .int .i64 rg] 25)).alloc (.cells #[.int .i64 0, .int .i64 0, .int .i64 0] 29)).heap.size ((w.alloc (.cells #[.slice ca n cc, .slice wa m wc, .int .i64 lk, .int .i64 rg] 25)).alloc (.cells #[.int .i64 0, .int .i64 0, .int .i64 0] 29)) V → V.heap[w.heap.size + 1]? = some (.cells #[.int .i64 0, .int .i64 0, .int .i64 0] 29)) := fun V hV => (hV.block _ (by simp)).trans (by
    have := heap_alloc_new (w.alloc (.cells #[.slice ca n cc, .slice wa m wc, .int .i64 lk, .int .i64 rg] 25)) (.cells #[.int .i64 0, .int .i64 0, .int .i64 0] 29)
    rwa [World.size_alloc] at this)
  clear HC hx
  go_enter Tryd.func31, Tryd.ntmps31
  go_wp2_with fail
  refine Calls.mono (HTO.out _) ?_
  rintro e w2 ⟨rfl, hb2⟩
  have hfb := HFB.out w2 hb2
  have H2 := Hid.out (p := Hid _) (And.intro hfb (HB.out.trans (hb2.mono HB.out.size)))
  have c0 := box_cell (i := 0) hfb rfl
  have c1 := box_cell (i := 1) hfb rfl
  have c2 := box_cell (i := 2) hfb rfl
  have f0 := box_free (i := 0) hfb
  have f1 := box_free (i := 1) hfb
  have f2 := box_free (i := 2) hfb
  clear hfb hb2
  go_wp2_with fail
  have hs := (heap_set_same (i := 2) (u := .int .i64 z) (heap_set_same (i := 1) (u := .int .i64 y) (heap_set_same (i := 0) (u := .int .i64 x) H2.out.1)))
  have hb := ((H2.out.2.setCell (p := ⟨w.heap.size + 1, 0, none⟩) (by show w.heap.size ≤ w.heap.size + 1; omega) (.int .i64 x)).setCell (p := ⟨w.heap.size + 1, 1, none⟩) (by show w.heap.size ≤ w.heap.size + 1; omega) (.int .i64 y)).setCell (p := ⟨w.heap.size + 1, 2, none⟩) (by show w.heap.size ≤ w.heap.size + 1; omega) (.int .i64 z)
  obtain ⟨V, hV⟩ : ∃ V, ((w2.setCell ⟨w.heap.size + 1, 0, none⟩ (.int .i64 x)).setCell ⟨w.heap.size + 1, 1, none⟩ (.int .i64 y)).setCell ⟨w.heap.size + 1, 2, none⟩ (.int .i64 z) = V := ⟨_, rfl⟩
  rw [hV] at hs hb ⊢
  have t0 : V.cell? ⟨w.heap.size + 1, 0, none⟩ = some (.int .i64 x) := box_cell (i := 0) hs rfl
  have t1 : V.cell? ⟨w.heap.size + 1, 1, none⟩ = some (.int .i64 y) := box_cell (i := 1) hs rfl
  have t2 : V.cell? ⟨w.heap.size + 1, 2, none⟩ = some (.int .i64 z) := box_cell (i := 2) hs rfl
  refine bodyPost_ret (v := .tuple #[nilV, ints3 x y z]) ?_ rfl ⟨rfl, hb⟩
  simp [results, Tryd.results31, go_sem, t0, t1, t2]

set_option maxRecDepth 100000 in
set_option maxHeartbeats 3200000 in
theorem aheadP_yes (w : World) (ca : Option Addr) (n cc : Nat) (wa : Option Addr) (m wc lk rg : Nat) (A : Nat → Option Addr) (L C : Nat → Nat) (X : Nat → Nat → Nat → Int) (hp : PIn w ca n A L C X) (hc : COk n L X m lk rg) (hT : TabZ w)
    (HC : Hid (∀ W, Below w.heap.size w W → Calls Tryd.prog 26 #[prgV ca n cc wa m wc lk rg] W fun e w' => e = .returned (ints3 0 0 0) ∧ Below W.heap.size W w')) :
    Calls Tryd.prog 31 #[prgV ca n cc wa m wc lk rg] w fun e w' => ∃ u ysss, e = .returned (.tuple #[u, ints3 0 0 0]) ∧ O3 w' w.heap.size u ysss ∧ ysss.length = n ∧ (∀ t, t < n → ∃ S, (∀ i r, has (S i) r = true ↔ Lv (X t) (L t) r i) ∧ ysss.getD t [] = tellS S (L t + 1)) ∧ Below w.heap.size w w' := by
  have HB := Hid.out (p := Hid _) (below_two w (.cells #[.slice ca n cc, .slice wa m wc, .int .i64 lk, .int .i64 rg] 25) (.cells #[.int .i64 0, .int .i64 0, .int .i64 0] 29))
  have HFB : Hid (∀ V, Below ((w.alloc (.cells #[.slice ca n cc, .slice wa m wc, .int .i64 lk, .int .i64 rg] 25)).alloc (.cells #[.int .i64 0, .int .i64 0, .int .i64 0] 29)).heap.size ((w.alloc (.cells #[.slice ca n cc, .slice wa m wc, .int .i64 lk, .int .i64 rg] 25)).alloc (.cells #[.int .i64 0, .int .i64 0, .int .i64 0] 29)) V → V.heap[w.heap.size + 1]? = some (.cells #[.int .i64 0, .int .i64 0, .int .i64 0] 29) ∧ V.heap[w.heap.size]? = some (.cells #[.slice ca n cc, .slice wa m wc, .int .i64 lk, .int .i64 rg] 25)) := fun V hV => ⟨(hV.block _ (by simp)).trans (by
    have := heap_alloc_new (w.alloc (.cells #[.slice ca n cc, .slice wa m wc, .int .i64 lk, .int .i64 rg] 25)) (.cells #[.int .i64 0, .int .i64 0, .int .i64 0] 29)
    rwa [World.size_alloc] at this), (hV.block _ (by simp; omega)).trans (box_later (heap_alloc_new w _) _)⟩
  obtain ⟨W0, hW0⟩ : ∃ V, ((w.alloc (.cells #[.slice ca n cc, .slice wa m wc, .int .i64 lk, .int .i64 rg] 25)).alloc (.cells #[.int .i64 0, .int .i64 0, .int .i64 0] 29)) = V := ⟨_, rfl⟩
  rw [hW0] at HB HFB
  have HTO : Hid (Calls Tryd.prog 65 #[prgV ca n cc wa m wc lk rg, .func (.func 66) #[] #[]] W0 fun e w' => ∃ u ysss, e = .returned (.tuple #[u, ints3 0 0 0]) ∧ O3 w' W0.heap.size u ysss ∧ ysss.length = n ∧ (∀ t, t < n → ∃ S, (∀ i r, has (S i) r = true ↔ Lv (X t) (L t) r i) ∧ ysss.getD t [] = tellS S (L t + 1)) ∧ Below W0.heap.size W0 w') :=
    told_yes W0 66 #[] (enters_of Tryd.func66 (by kernel_rfl) rfl) ca n cc wa m wc lk rg A L C X (fun t => L t + 1) (fun t S => ∀ i r, has (S i) r = true ↔ Lv (X t) (L t) r i) hc.n4 (fun t ht => by have := hc.L4 t ht; omega) (hp.below HB.out) (TabZ.below hT HB.out) (fun W hW => HC.out W (HB.out.trans (hW.mono HB.out.size)))
      (fun V hV t ht => by
        have hV2 := HB.out.trans (hV.mono HB.out.size)
        have hpv := hp.below hV2
        have hord : ∀ i, i < L t → OrdAt V (A t) i (X t i 0) (X t i 1) (X t i 2) (X t i 3) := fun i hi => hpv.ord t i ht hi
        have hL := hc.L4 t ht
        have hrg := hc.rg2
        exact (liveAhead_any V (A t) (L t) (C t) (X t) rg m lk hL hrg hord (fun i hi => hc.ord t i ht hi)).mono fun e w' h => by
          obtain ⟨ab, S, h1, h2, h3, h4, h5⟩ := h
          exact ⟨ab, S, h1, h2, h3, h4, h5⟩)
  have HW0 := Hid.out (p := Hid _) hW0
  clear HC hT hp hc hW0
  go_enter Tryd.func31, Tryd.ntmps31
  go_wp2_with fail
  rw [HW0.out]
  refine Calls.mono HTO.out ?_
  rintro e w2 ⟨u, ysss, rfl, hO2, hl2, hq2, hb2⟩
  have hfb := (HFB.out w2 hb2).1
  have H2 := Hid.out (p := Hid _) (And.intro hfb (And.intro (HB.out.trans (hb2.mono HB.out.size)) (And.intro hO2 (And.intro hl2 hq2))))
  have c0 := box_cell (i := 0) hfb rfl
  have c1 := box_cell (i := 1) hfb rfl
  have c2 := box_cell (i := 2) hfb rfl
  have f0 := box_free (i := 0) hfb
  have f1 := box_free (i := 1) hfb
  have f2 := box_free (i := 2) hfb
  clear hfb hb2 hO2 hl2 hq2
  go_wp2_with fail
  have hs := (heap_set_same (i := 2) (u := .int .i64 0) (heap_set_same (i := 1) (u := .int .i64 0) (heap_set_same (i := 0) (u := .int .i64 0) H2.out.1)))
  have hb := ((H2.out.2.1.setCell (p := ⟨w.heap.size + 1, 0, none⟩) (by show w.heap.size ≤ w.heap.size + 1; omega) (.int .i64 0)).setCell (p := ⟨w.heap.size + 1, 1, none⟩) (by show w.heap.size ≤ w.heap.size + 1; omega) (.int .i64 0)).setCell (p := ⟨w.heap.size + 1, 2, none⟩) (by show w.heap.size ≤ w.heap.size + 1; omega) (.int .i64 0)
  have ho : ∀ g, g ≠ w.heap.size + 1 → (((w2.setCell ⟨w.heap.size + 1, 0, none⟩ (.int .i64 0)).setCell ⟨w.heap.size + 1, 1, none⟩ (.int .i64 0)).setCell ⟨w.heap.size + 1, 2, none⟩ (.int .i64 0)).heap[g]? = w2.heap[g]? := fun g hg => by
    have e : ∀ (Z : World) (q : Nat) (u : Value), (Z.setCell ⟨w.heap.size + 1, q, none⟩ u).heap[g]? = Z.heap[g]? := fun Z q u => Below.heap_setCell _ _ _ _ (fun x => hg (by simpa using x))
    rw [e, e, e]
  have hO := (O3.low H2.out.2.2.1 HB.out.size).far H2.out.1 (by decide) (by decide) (by decide) ho
  obtain ⟨V, hV⟩ : ∃ V, ((w2.setCell ⟨w.heap.size + 1, 0, none⟩ (.int .i64 0)).setCell ⟨w.heap.size + 1, 1, none⟩ (.int .i64 0)).setCell ⟨w.heap.size + 1, 2, none⟩ (.int .i64 0) = V := ⟨_, rfl⟩
  rw [hV] at hs hb hO ⊢
  have t0 : V.cell? ⟨w.heap.size + 1, 0, none⟩ = some (.int .i64 0) := box_cell (i := 0) hs rfl
  have t1 : V.cell? ⟨w.heap.size + 1, 1, none⟩ = some (.int .i64 0) := box_cell (i := 1) hs rfl
  have t2 : V.cell? ⟨w.heap.size + 1, 2, none⟩ = some (.int .i64 0) := box_cell (i := 2) hs rfl
  refine bodyPost_ret (v := .tuple #[u, ints3 0 0 0]) ?_ rfl ⟨u, ysss, rfl, hO, H2.out.2.2.2.1, H2.out.2.2.2.2, hb⟩
  simp [results, Tryd.results31, go_sem, t0, t1, t2]
end

section
open Go.RowKit

theorem deaG_led {n m lk rg : Nat} {L : Nat → Nat} {X : Nat → Nat → Nat → Int} (hc : COk n L X m lk rg) (t : Nat) (bt : Nat → List I4) (ht : t < n) (hG : DeaG X L t bt) : ∀ i, i < L t → (bt i).length ≤ 4 ∧ ∀ x, x ∈ bt i → (1 ≤ x.1 ∧ x.1 ≤ 18) ∧ (x.1 = 14 → 0 ≤ x.2.1 ∧ x.2.1 ≤ L t) ∧ (x.1 = 15 → 0 ≤ x.2.2.1 ∧ x.2.2.1 ≤ L t) := fun i hi => by
  obtain ⟨d, hb, _⟩ := hG i hi
  rw [hb]
  have h := hc.ord t i ht hi
  cases d with
  | true => exact ⟨by simp [bDrop], fun x hx => by simp [bDrop] at hx⟩
  | false =>
    refine ⟨by simp [bDrop], fun x hx => ?_⟩
    have e : x = ordAt X t i := by simpa [bDrop] using hx
    subst e
    refine ⟨ok_op h, fun e => ?_, fun e => ?_⟩
    · have e' : X t i 0 = 14 := e
      rw [e'] at h
      exact ok_jump h
    · have e' : X t i 0 = 15 := e
      rw [e'] at h
      exact (ok_zero h).2

set_option maxRecDepth 100000 in
set_option maxHeartbeats 1600000 in
/-- Dead, of a program that may not be. -/
theorem dead_no (w : World) (ca : Option Addr) (n cc : Nat) (wa : Option Addr) (m wc : Nat) (lk rg x y z : Int) (A : Nat → Option Addr) (L C : Nat → Nat) (X : Nat → Nat → Nat → Int) (hp : PIn w ca n A L C X) (hchk : chk n L X m lk rg = (x, y, z)) (hx : x ≠ 0) :
    Calls Tryd.prog 11 #[prgV ca n cc wa m wc lk rg] w fun e w' => e = .returned (.tuple #[noP, ints3 x y z]) ∧ Below w.heap.size w w' := by
  obtain ⟨W3, hW3, hz3, hat⟩ := box3 w (.cells #[.slice ca n cc, .slice wa m wc, .int .i64 lk, .int .i64 rg] 25) (.cells #[nilV, nilV, .int .i64 0, .int .i64 0] 25) (.cells #[.int .i64 0, .int .i64 0, .int .i64 0] 29)
  have HCK : Hid (∀ V, Below w.heap.size w V → Calls Tryd.prog 31 #[.agg #[.slice ca n cc, .slice wa m wc, .int .i64 lk, .int .i64 rg]] V fun e w' => e = .returned (.tuple #[nilV, ints3 x y z]) ∧ Below V.heap.size V w') := fun V hV => aheadP_no V ca n cc wa m wc lk rg x y z hx (fun W hW => check_any ca n cc wa m wc lk rg A L C X x y z hchk W (hp.below (hV.trans (hW.mono hV.size))))
  have hx' : (x != 0) = true := by simpa using hx
  have HAT := Hid.out (p := Hid _) hat
  have HW3 := Hid.out (p := Hid _) hW3
  clear hp hchk hx hat hW3
  go_enter Tryd.func11, Tryd.ntmps11
  go_wp2_with fail
  rw [HW3.out]
  refine Calls.mono (HCK.out _ (HAT.out _ (Below.refl _ _)).1) ?_
  rintro e w1 ⟨rfl, hb1⟩
  obtain ⟨hw1, b0, b1, b2⟩ := HAT.out w1 hb1
  have t0 : ∀ o o', ((w1.alloc o).alloc o').cell? ⟨w.heap.size + 1, 0, none⟩ = some nilV := fun o o' => box_cell (box_later (box_later b1 o) o') rfl
  have t1 : ∀ o o', ((w1.alloc o).alloc o').cell? ⟨w.heap.size + 1, 1, none⟩ = some nilV := fun o o' => box_cell (box_later (box_later b1 o) o') rfl
  have t2 : ∀ o o', ((w1.alloc o).alloc o').cell? ⟨w.heap.size + 1, 2, none⟩ = some (.int .i64 0) := fun o o' => box_cell (box_later (box_later b1 o) o') rfl
  have t3 : ∀ o o', ((w1.alloc o).alloc o').cell? ⟨w.heap.size + 1, 3, none⟩ = some (.int .i64 0) := fun o o' => box_cell (box_later (box_later b1 o) o') rfl
  have u0 : ∀ o o', ((w1.alloc o).alloc o').cell? ⟨w.heap.size + 1 + 1, 0, none⟩ = some (.int .i64 0) := fun o o' => box_cell (box_later (box_later b2 o) o') rfl
  have u1 : ∀ o o', ((w1.alloc o).alloc o').cell? ⟨w.heap.size + 1 + 1, 1, none⟩ = some (.int .i64 0) := fun o o' => box_cell (box_later (box_later b2 o) o') rfl
  have u2 : ∀ o o', ((w1.alloc o).alloc o').cell? ⟨w.heap.size + 1 + 1, 2, none⟩ = some (.int .i64 0) := fun o o' => box_cell (box_later (box_later b2 o) o') rfl
  have tf : ∀ o o' i, ((w1.alloc o).alloc o').frozen? ⟨w.heap.size + 1, i, none⟩ = false := fun o o' i => box_free (box_later (box_later b1 o) o')
  have uf : ∀ o o' i, ((w1.alloc o).alloc o').frozen? ⟨w.heap.size + 1 + 1, i, none⟩ = false := fun o o' i => box_free (box_later (box_later b2 o) o')
  have hl2 : w.heap.size + 1 + 1 < w1.heap.size := box_lt b2
  have n1 : w1.heap.size ≠ w.heap.size + 1 := by omega
  have n2 : w1.heap.size ≠ w.heap.size + 1 + 1 := by omega
  have n3 : w.heap.size + 1 ≠ w1.heap.size := by omega
  have n4 : w.heap.size + 1 + 1 ≠ w1.heap.size := by omega
  have n5 : w1.heap.size + 1 ≠ w.heap.size + 1 := by omega
  have n6 : w1.heap.size + 1 ≠ w.heap.size + 1 + 1 := by omega
  have n7 : w.heap.size + 1 ≠ w1.heap.size + 1 := by omega
  have n8 : w.heap.size + 1 + 1 ≠ w1.heap.size + 1 := by omega
  have HB1 := Hid.out (p := Hid _) hw1
  clear hw1 hb1 b0 b1 b2 HW3 HAT HCK
  go_wp2_with fail
  go_region
  all_goals go_wp2
  have hB : Below w.heap.size w ((w1.alloc (.cells #[nilV] 61)).alloc (.cells #[.int .i64 x, .int .i64 y, .int .i64 z] 29)) := (HB1.out.alloc HB1.out.size _).alloc (by have := HB1.out.size; simp; omega) _
  all_goals refine bodyPost_ret (v := .tuple #[noP, ints3 x y z]) (by simp [results, Tryd.results11, go_sem, t0, t1, t2, t3, u0, u1, u2]) rfl ⟨rfl, ?_⟩
  all_goals exact below7 hB _ _ _ _ _ _ _


attribute [local go_sem ↓] appS_eq in
set_option maxRecDepth 100000 in
set_option maxHeartbeats 3200000 in
/-- Dead, of a program that may be. -/
theorem dead_may (w : World) (ca : Option Addr) (n cc : Nat) (wa : Option Addr) (words : List Int) (wc lk rg : Nat) (A : Nat → Option Addr) (L C : Nat → Nat) (X : Nat → Nat → Nat → Int) (hp : PIn w ca n A L C X) (hw : SIs w wa words) (hnil : wa = none → words = [] ∧ wc = 0) (hchk : chk n L X words.length lk rg = (0, 0, 0)) (hc : COk n L X words.length lk rg) (hT : TabZ w) :
    Calls Tryd.prog 11 #[prgV ca n cc wa words.length wc lk rg] w fun e w' => ∃ (b : Nat → Nat → List I4) (va : Option Addr) (vc : Nat) (ua : Option Addr) (uc : Nat), e = .returned (.tuple #[.agg #[.slice va n vc, .slice ua words.length uc, .int .i64 lk, .int .i64 rg], ints3 0 0 0]) ∧ Hid ((∀ t, t < n → DeaG X L t (b t)) ∧ (∀ V, Below w'.heap.size w' V → NewQ w n words lk rg b L (.returned (.agg #[.slice va n vc, .slice ua words.length uc, .int .i64 lk, .int .i64 rg])) V)) ∧ Below w.heap.size w w' := by
  obtain ⟨W3, hW3, hz3, hat⟩ := box3 w (.cells #[.slice ca n cc, .slice wa words.length wc, .int .i64 lk, .int .i64 rg] 25) (.cells #[nilV, nilV, .int .i64 0, .int .i64 0] 25) (.cells #[.int .i64 0, .int .i64 0, .int .i64 0] 29)
  have HCK : Hid (∀ V, Below w.heap.size w V → Calls Tryd.prog 31 #[.agg #[.slice ca n cc, .slice wa words.length wc, .int .i64 lk, .int .i64 rg]] V fun e w' => ∃ u ysss, e = .returned (.tuple #[u, ints3 0 0 0]) ∧ Hid (O3 w' V.heap.size u ysss ∧ ysss.length = n ∧ (∀ t, t < n → ∃ S, (∀ i r, has (S i) r = true ↔ Lv (X t) (L t) r i) ∧ ysss.getD t [] = tellS S (L t + 1))) ∧ Below V.heap.size V w') := fun V hV => (aheadP_yes V ca n cc wa words.length wc lk rg A L C X (hp.below hV) hc (hT.below hV) (fun W hW => check_any ca n cc wa words.length wc lk rg A L C X 0 0 0 hchk W (hp.below (hV.trans (hW.mono hV.size))))).mono fun e w' h => by
    obtain ⟨u, ysss, h1, h2, h3, h4, h5⟩ := h
    exact ⟨u, ysss, h1, ⟨h2, h3, h4⟩, h5⟩
  have HCH : Hid (∀ V (ab B : Nat) u ysss, V.heap[w.heap.size]? = some (.cells #[.slice ca n cc, .slice wa words.length wc, .int .i64 lk, .int .i64 rg] 25) → V.cell? ⟨ab, 0, none⟩ = some u → O3 V B u ysss → ysss.length = n → (∀ t, t < n → ∃ S, (∀ i r, has (S i) r = true ↔ Lv (X t) (L t) r i) ∧ ysss.getD t [] = tellS S (L t + 1)) → Below w.heap.size w V → Calls Tryd.prog 27 #[.agg #[.slice ca n cc, .slice wa words.length wc, .int .i64 lk, .int .i64 rg], .func (.func 32) #[] #[.pointer (some ⟨w.heap.size, 0, none⟩), .pointer (some ⟨ab, 0, none⟩)]] V fun e w' => ∃ (b : Nat → Nat → List I4) (va : Option Addr) (vc : Nat) (ua : Option Addr) (uc : Nat), e = .returned (.agg #[.slice va n vc, .slice ua words.length uc, .int .i64 lk, .int .i64 rg]) ∧ Hid ((∀ t, t < n → DeaG X L t (b t)) ∧ NewQ V n words lk rg b L (.returned (.agg #[.slice va n vc, .slice ua words.length uc, .int .i64 lk, .int .i64 rg])) w') ∧ Below V.heap.size V w') := fun V ab B u ysss hbx hab hO hl hS hV => by
    refine (changed_any V 32 33 #[.pointer (some ⟨w.heap.size, 0, none⟩), .pointer (some ⟨ab, 0, none⟩)] (fun xs w => by kernel_rfl) (fun xs w => by kernel_rfl) ca n cc wa words wc lk rg A L C X (hw.below hV) hnil hc.m64 (hp.below hV) hc.n4 hc.L4 (DeaG X L) (fun t bt ht hG => deaG_led hc t bt ht hG) (deadF_any V w.heap.size ab ca n cc words.length lk rg _ lk A L C X (hp.below hV) hc hbx B u ysss hO hl hS hab)).mono ?_
    rintro e w' ⟨b, hG, hN⟩
    obtain ⟨va, vc, ua, uc, tv, rfl, h1, h2, h3, h4⟩ := hN
    exact ⟨b, va, vc, ua, uc, rfl, ⟨hG, va, vc, ua, uc, tv, rfl, h1, h2, h3, h4⟩, h4⟩
  have HAT := Hid.out (p := Hid _) hat
  have HW3 := Hid.out (p := Hid _) hW3
  obtain ⟨mw, hmw⟩ : ∃ k, words.length = k := ⟨_, rfl⟩
  have HML : Hid (words.length = mw) := hmw
  rw [hmw] at HCK HCH HAT HW3 ⊢
  clear hp hchk hat hW3 hw hnil hc hmw hT
  go_enter Tryd.func11, Tryd.ntmps11
  go_wp2_with fail
  rw [HW3.out]
  refine Calls.mono (HCK.out _ (HAT.out _ (Below.refl _ _)).1) ?_
  rintro e w1 ⟨u, ysss, rfl, HO1, hb1⟩
  obtain ⟨ua0, uc0, hu⟩ := HO1.out.1.form
  rw [HO1.out.2.1] at hu
  subst hu
  obtain ⟨hw1, b0, b1, b2⟩ := HAT.out w1 hb1
  have hl2 : w.heap.size + 1 + 1 < w1.heap.size := box_lt b2
  have p0 : ∀ o o', ((w1.alloc o).alloc o').cell? ⟨w.heap.size, 0, none⟩ = some (.slice ca n cc) := fun o o' => box_cell (box_later (box_later b0 o) o') rfl
  have p1 : ∀ o o', ((w1.alloc o).alloc o').cell? ⟨w.heap.size, 1, none⟩ = some (.slice wa mw wc) := fun o o' => box_cell (box_later (box_later b0 o) o') rfl
  have p2 : ∀ o o', ((w1.alloc o).alloc o').cell? ⟨w.heap.size, 2, none⟩ = some (.int .i64 lk) := fun o o' => box_cell (box_later (box_later b0 o) o') rfl
  have p3 : ∀ o o', ((w1.alloc o).alloc o').cell? ⟨w.heap.size, 3, none⟩ = some (.int .i64 rg) := fun o o' => box_cell (box_later (box_later b0 o) o') rfl
  have H1 : Hid (Below W3.heap.size W3 w1 ∧ Below w.heap.size w w1) := ⟨hb1, hw1⟩
  have HB0 := Hid.out (p := Hid _) (And.intro b0 (And.intro b1 b2))
  clear hb1 hw1 b0 b1 b2 HW3 HCK
  have hb2 : Below w1.heap.size w1 ((w1.alloc (.cells #[.slice ua0 n uc0] 61)).alloc (.cells #[.int .i64 0, .int .i64 0, .int .i64 0] 29)) := ((Below.refl _ _).alloc (Nat.le_refl _) _).alloc (by simp) _
  have hab2 := box_cell (i := 0) (box_later (heap_alloc_new w1 (.cells #[.slice ua0 n uc0] 61)) (.cells #[.int .i64 0, .int .i64 0, .int .i64 0] 29)) rfl
  have HC := Hid.out (p := Hid _) (HCH.out ((w1.alloc (.cells #[.slice ua0 n uc0] 61)).alloc (.cells #[.int .i64 0, .int .i64 0, .int .i64 0] 29)) w1.heap.size _ (.slice ua0 n uc0) ysss (box_later (box_later HB0.out.1 _) _) hab2 (HO1.out.1.below hb2) HO1.out.2.1 HO1.out.2.2 (H1.out.2.trans (hb2.mono H1.out.2.size)))
  clear hab2 HO1
  clear HCH hb2
  go_wp2_with fail
  refine Calls.mono HC.out ?_
  rintro e w6 ⟨b, va6, vc6, ua6, uc6, rfl, HG, hb6⟩
  have hb16 : Below w1.heap.size w1 w6 := (((Below.refl _ _).alloc (Nat.le_refl _) _).alloc (by simp) _).trans (hb6.mono (by simp; omega))
  have hl6 : w1.heap.size + 1 + 1 ≤ w6.heap.size := by simpa using hb6.size
  have hb36 : Below W3.heap.size W3 w6 := H1.out.1.trans (hb16.mono H1.out.1.size)
  obtain ⟨hw6, _, b1, b2⟩ := HAT.out w6 hb36
  have H6 := Hid.out (p := Hid _) hw6
  have t0 : w6.cell? ⟨w.heap.size + 1, 0, none⟩ = some nilV := box_cell b1 rfl
  have t1 : w6.cell? ⟨w.heap.size + 1, 1, none⟩ = some nilV := box_cell b1 rfl
  have t2 : w6.cell? ⟨w.heap.size + 1, 2, none⟩ = some (.int .i64 0) := box_cell b1 rfl
  have t3 : w6.cell? ⟨w.heap.size + 1, 3, none⟩ = some (.int .i64 0) := box_cell b1 rfl
  have u0 : w6.cell? ⟨w.heap.size + 1 + 1, 0, none⟩ = some (.int .i64 0) := box_cell b2 rfl
  have u1 : w6.cell? ⟨w.heap.size + 1 + 1, 1, none⟩ = some (.int .i64 0) := box_cell b2 rfl
  have u2 : w6.cell? ⟨w.heap.size + 1 + 1, 2, none⟩ = some (.int .i64 0) := box_cell b2 rfl
  have tf : ∀ i, w6.frozen? ⟨w.heap.size + 1, i, none⟩ = false := fun i => box_free b1
  have uf : ∀ i, w6.frozen? ⟨w.heap.size + 1 + 1, i, none⟩ = false := fun i => box_free b2
  have n1 : w6.heap.size ≠ w.heap.size + 1 := by omega
  have n2 : w6.heap.size ≠ w.heap.size + 1 + 1 := by omega
  have n3 : w.heap.size + 1 ≠ w6.heap.size := by omega
  have n4 : w.heap.size + 1 + 1 ≠ w6.heap.size := by omega
  clear hw6 hb36 hb16 hb6 b1 b2 HC
  go_wp2_with fail
  refine bodyPost_ret (v := .tuple #[.agg #[.slice va6 n vc6, .slice ua6 mw uc6, .int .i64 lk, .int .i64 rg], ints3 0 0 0]) (by simp [results, Tryd.results11, go_sem, t0, t1, t2, t3, u0, u1, u2]) rfl ?_
  have hbn := below7n H6.out (.slice va6 n vc6) (.slice ua6 mw uc6) (.int .i64 lk) (.int .i64 rg) (.int .i64 0) (.int .i64 0) (.int .i64 0)
  refine ⟨b, va6, vc6, ua6, uc6, rfl, ⟨HG.out.1, fun V hV => NewQ.below ?_ hV⟩, hbn⟩
  refine HG.out.2.far (fun g hg1 hg2 => ?_) (by have := H1.out.2.size; simp; omega) hbn
  rw [World.size_alloc, World.size_alloc] at hg1
  rw [far7 (by omega) (by omega)]
end

end Go.Proofs.YtkailbdjilkneaaDoor
