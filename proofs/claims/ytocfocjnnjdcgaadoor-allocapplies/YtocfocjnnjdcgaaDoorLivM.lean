/-
  What the program tells of all threads: which registers clash.
-/
import Derived.Test.YtocfocjnnjdcgaaDoorOwnS
import Derived.Test.YtocfocjnnjdcgaaDoorLivG
namespace Go.Proofs.YtocfocjnnjdcgaaDoor
open Go.RowKit Go.Shelf

set_option maxRecDepth 100000 in
set_option maxHeartbeats 1600000 in
theorem clash1_any (w : World) (pb : Nat) (ca : Option Addr) (l cc : Nat) (X : Nat → Nat → Int) (rg m lk : Nat) (hl : l ≤ 1000) (hrg : rg ≤ 200) (hord : ∀ i, i < l → OrdAt w ca i (X i 0) (X i 1) (X i 2) (X i 3)) (hok : ∀ i, i < l → ordE rg m lk l (X i 0) (X i 1) (X i 2) (X i 3) = 0) (hT : TabZ w) (hpb : w.cell? ⟨pb, 3, none⟩ = some (.int .i64 rg)) :
    Calls Tryd.prog 29 #[.slice ca l cc, .pointer (some ⟨pb, 0, none⟩)] w fun e w' => ∃ fb F, e = .returned (.slice (some ⟨fb, 0, none⟩) rg rg) ∧ RowZ w' w.heap.size fb rg F ∧ (∀ j, W64 (F j)) ∧ (∀ a b, has (F a) b = true ↔ Cl X l a b) ∧ Below w.heap.size w w' := by
  have HCL := Hid.out (p := Hid _) (clashes_any w ca l cc X rg m lk hl hrg hord hok hT)
  clear hord hok hT
  go_enter Tryd.func29, Tryd.ntmps29
  go_wp2_with fail
  refine Calls.mono HCL.out ?_
  rintro e w2 ⟨fb, F, rfl, h1, h2, h3, h4⟩
  have H := Hid.out (p := Hid _) (And.intro h1 (And.intro h2 (And.intro h3 h4)))
  clear h1 h2 h3 h4
  go_wp2_with fail
  refine bodyPost_ret (v := .slice (some ⟨fb, 0, none⟩) rg rg) (by simp [results, Tryd.results29, go_sem]) rfl ⟨fb, F, rfl, H.out⟩

set_option maxRecDepth 100000 in
set_option maxHeartbeats 3200000 in
theorem clashP_no (w : World) (ca : Option Addr) (n cc : Nat) (wa : Option Addr) (m wc : Nat) (lk rg x y z : Int) (hx : x ≠ 0) (HC : Hid (∀ W, Below w.heap.size w W → Calls Tryd.prog 41 #[prgV ca n cc wa m wc lk rg] W fun e w' => e = .returned (ints3 x y z) ∧ Below W.heap.size W w')) :
    Calls Tryd.prog 9 #[prgV ca n cc wa m wc lk rg] w fun e w' => e = .returned (.tuple #[nilV, ints3 x y z]) ∧ Below w.heap.size w w' := by
  have HB := Hid.out (p := Hid _) (below_two w (.cells #[.slice ca n cc, .slice wa m wc, .int .i64 lk, .int .i64 rg] 25) (.cells #[.int .i64 0, .int .i64 0, .int .i64 0] 30))
  have HTO : Hid (∀ fv, Calls Tryd.prog 27 #[prgV ca n cc wa m wc lk rg, fv] ((w.alloc (.cells #[.slice ca n cc, .slice wa m wc, .int .i64 lk, .int .i64 rg] 25)).alloc (.cells #[.int .i64 0, .int .i64 0, .int .i64 0] 30)) fun e w' => e = .returned (.tuple #[nilV, ints3 x y z]) ∧ Below ((w.alloc (.cells #[.slice ca n cc, .slice wa m wc, .int .i64 lk, .int .i64 rg] 25)).alloc (.cells #[.int .i64 0, .int .i64 0, .int .i64 0] 30)).heap.size ((w.alloc (.cells #[.slice ca n cc, .slice wa m wc, .int .i64 lk, .int .i64 rg] 25)).alloc (.cells #[.int .i64 0, .int .i64 0, .int .i64 0] 30)) w') := fun fv => told_no _ fv ca n cc wa m wc lk rg x y z hx (fun W hW => HC.out W (HB.out.trans (hW.mono HB.out.size)))
  have HFB : Hid (∀ V, Below ((w.alloc (.cells #[.slice ca n cc, .slice wa m wc, .int .i64 lk, .int .i64 rg] 25)).alloc (.cells #[.int .i64 0, .int .i64 0, .int .i64 0] 30)).heap.size ((w.alloc (.cells #[.slice ca n cc, .slice wa m wc, .int .i64 lk, .int .i64 rg] 25)).alloc (.cells #[.int .i64 0, .int .i64 0, .int .i64 0] 30)) V → V.heap[w.heap.size + 1]? = some (.cells #[.int .i64 0, .int .i64 0, .int .i64 0] 30)) := fun V hV => (hV.block _ (by simp)).trans (by
    have := heap_alloc_new (w.alloc (.cells #[.slice ca n cc, .slice wa m wc, .int .i64 lk, .int .i64 rg] 25)) (.cells #[.int .i64 0, .int .i64 0, .int .i64 0] 30)
    rwa [World.size_alloc] at this)
  clear HC hx
  go_enter Tryd.func9, Tryd.ntmps9
  go_wp2_with fail
  refine Calls.mono (HTO.out _) ?_
  rintro e w2 ⟨rfl, hb2⟩
  have hfb := HFB.out w2 hb2
  have H2 := Hid.out (p := Hid _) (And.intro hfb (HB.out.trans (hb2.mono HB.out.size)))
  have c0 := box_cell (i := 0) hfb rfl
  have c1 := box_cell (i := 1) hfb rfl
  have c2 := box_cell (i := 2) hfb rfl
  have f0 := box_free (i := 0) hfb
  have f1 := box_free (i := 1) hfb
  have f2 := box_free (i := 2) hfb
  clear hfb hb2
  go_wp2_with fail
  have hs := (heap_set_same (i := 2) (u := .int .i64 z) (heap_set_same (i := 1) (u := .int .i64 y) (heap_set_same (i := 0) (u := .int .i64 x) H2.out.1)))
  have hb := ((H2.out.2.setCell (p := ⟨w.heap.size + 1, 0, none⟩) (by show w.heap.size ≤ w.heap.size + 1; omega) (.int .i64 x)).setCell (p := ⟨w.heap.size + 1, 1, none⟩) (by show w.heap.size ≤ w.heap.size + 1; omega) (.int .i64 y)).setCell (p := ⟨w.heap.size + 1, 2, none⟩) (by show w.heap.size ≤ w.heap.size + 1; omega) (.int .i64 z)
  obtain ⟨V, hV⟩ : ∃ V, ((w2.setCell ⟨w.heap.size + 1, 0, none⟩ (.int .i64 x)).setCell ⟨w.heap.size + 1, 1, none⟩ (.int .i64 y)).setCell ⟨w.heap.size + 1, 2, none⟩ (.int .i64 z) = V := ⟨_, rfl⟩
  rw [hV] at hs hb ⊢
  have t0 : V.cell? ⟨w.heap.size + 1, 0, none⟩ = some (.int .i64 x) := box_cell (i := 0) hs rfl
  have t1 : V.cell? ⟨w.heap.size + 1, 1, none⟩ = some (.int .i64 y) := box_cell (i := 1) hs rfl
  have t2 : V.cell? ⟨w.heap.size + 1, 2, none⟩ = some (.int .i64 z) := box_cell (i := 2) hs rfl
  refine bodyPost_ret (v := .tuple #[nilV, ints3 x y z]) ?_ rfl ⟨rfl, hb⟩
  simp [results, Tryd.results9, go_sem, t0, t1, t2]

set_option maxRecDepth 100000 in
set_option maxHeartbeats 3200000 in
theorem clashP_yes (w : World) (ca : Option Addr) (n cc : Nat) (wa : Option Addr) (m wc lk rg : Nat) (A : Nat → Option Addr) (L C : Nat → Nat) (X : Nat → Nat → Nat → Int) (hp : PIn w ca n A L C X) (hc : COk n L X m lk rg) (hT : TabZ w)
    (HC : Hid (∀ W, Below w.heap.size w W → Calls Tryd.prog 41 #[prgV ca n cc wa m wc lk rg] W fun e w' => e = .returned (ints3 0 0 0) ∧ Below W.heap.size W w')) :
    Calls Tryd.prog 9 #[prgV ca n cc wa m wc lk rg] w fun e w' => ∃ u ysss, e = .returned (.tuple #[u, ints3 0 0 0]) ∧ O3 w' w.heap.size u ysss ∧ ysss.length = n ∧ (∀ t, t < n → ∃ S, (∀ a b, has (S a) b = true ↔ Cl (X t) (L t) a b) ∧ ysss.getD t [] = tellS S (rg)) ∧ Below w.heap.size w w' := by
  have HB := Hid.out (p := Hid _) (below_two w (.cells #[.slice ca n cc, .slice wa m wc, .int .i64 lk, .int .i64 rg] 25) (.cells #[.int .i64 0, .int .i64 0, .int .i64 0] 30))
  have HFB : Hid (∀ V, Below ((w.alloc (.cells #[.slice ca n cc, .slice wa m wc, .int .i64 lk, .int .i64 rg] 25)).alloc (.cells #[.int .i64 0, .int .i64 0, .int .i64 0] 30)).heap.size ((w.alloc (.cells #[.slice ca n cc, .slice wa m wc, .int .i64 lk, .int .i64 rg] 25)).alloc (.cells #[.int .i64 0, .int .i64 0, .int .i64 0] 30)) V → V.heap[w.heap.size + 1]? = some (.cells #[.int .i64 0, .int .i64 0, .int .i64 0] 30) ∧ V.heap[w.heap.size]? = some (.cells #[.slice ca n cc, .slice wa m wc, .int .i64 lk, .int .i64 rg] 25)) := fun V hV => ⟨(hV.block _ (by simp)).trans (by
    have := heap_alloc_new (w.alloc (.cells #[.slice ca n cc, .slice wa m wc, .int .i64 lk, .int .i64 rg] 25)) (.cells #[.int .i64 0, .int .i64 0, .int .i64 0] 30)
    rwa [World.size_alloc] at this), (hV.block _ (by simp; omega)).trans (box_later (heap_alloc_new w _) _)⟩
  obtain ⟨W0, hW0⟩ : ∃ V, ((w.alloc (.cells #[.slice ca n cc, .slice wa m wc, .int .i64 lk, .int .i64 rg] 25)).alloc (.cells #[.int .i64 0, .int .i64 0, .int .i64 0] 30)) = V := ⟨_, rfl⟩
  rw [hW0] at HB HFB
  have HTO : Hid (Calls Tryd.prog 27 #[prgV ca n cc wa m wc lk rg, .func (.func 29) #[] #[.pointer (some ⟨w.heap.size, 0, none⟩)]] W0 fun e w' => ∃ u ysss, e = .returned (.tuple #[u, ints3 0 0 0]) ∧ O3 w' W0.heap.size u ysss ∧ ysss.length = n ∧ (∀ t, t < n → ∃ S, (∀ a b, has (S a) b = true ↔ Cl (X t) (L t) a b) ∧ ysss.getD t [] = tellS S (rg)) ∧ Below W0.heap.size W0 w') :=
    told_yes W0 29 #[.pointer (some ⟨w.heap.size, 0, none⟩)] (enters_of Tryd.func29 (by kernel_rfl) rfl) ca n cc wa m wc lk rg A L C X (fun t => rg) (fun t S => ∀ a b, has (S a) b = true ↔ Cl (X t) (L t) a b) hc.n4 (fun t ht => by have := hc.rg2; omega) (hp.below HB.out) (TabZ.below hT HB.out) (fun W hW => HC.out W (HB.out.trans (hW.mono HB.out.size)))
      (fun V hV t ht => by
        have hV2 := HB.out.trans (hV.mono HB.out.size)
        have hpv := hp.below hV2
        have hord : ∀ i, i < L t → OrdAt V (A t) i (X t i 0) (X t i 1) (X t i 2) (X t i 3) := fun i hi => hpv.ord t i ht hi
        have hL := hc.L4 t ht
        have hrg := hc.rg2
        refine (clash1_any V w.heap.size (A t) (L t) (C t) (X t) rg m lk hL hrg hord (fun i hi => hc.ord t i ht hi) (TabZ.below hT hV2) (box_cell (i := 3) (HFB.out V hV).2 rfl)).mono fun e w' h => ?_
        obtain ⟨ab, S, h1, h2, h3, h4, h5⟩ := h
        exact ⟨ab, S, h1, h2, h3, h4, h5⟩)
  have HW0 := Hid.out (p := Hid _) hW0
  clear HC hT hp hc hW0
  go_enter Tryd.func9, Tryd.ntmps9
  go_wp2_with fail
  rw [HW0.out]
  refine Calls.mono HTO.out ?_
  rintro e w2 ⟨u, ysss, rfl, hO2, hl2, hq2, hb2⟩
  have hfb := (HFB.out w2 hb2).1
  have H2 := Hid.out (p := Hid _) (And.intro hfb (And.intro (HB.out.trans (hb2.mono HB.out.size)) (And.intro hO2 (And.intro hl2 hq2))))
  have c0 := box_cell (i := 0) hfb rfl
  have c1 := box_cell (i := 1) hfb rfl
  have c2 := box_cell (i := 2) hfb rfl
  have f0 := box_free (i := 0) hfb
  have f1 := box_free (i := 1) hfb
  have f2 := box_free (i := 2) hfb
  clear hfb hb2 hO2 hl2 hq2
  go_wp2_with fail
  have hs := (heap_set_same (i := 2) (u := .int .i64 0) (heap_set_same (i := 1) (u := .int .i64 0) (heap_set_same (i := 0) (u := .int .i64 0) H2.out.1)))
  have hb := ((H2.out.2.1.setCell (p := ⟨w.heap.size + 1, 0, none⟩) (by show w.heap.size ≤ w.heap.size + 1; omega) (.int .i64 0)).setCell (p := ⟨w.heap.size + 1, 1, none⟩) (by show w.heap.size ≤ w.heap.size + 1; omega) (.int .i64 0)).setCell (p := ⟨w.heap.size + 1, 2, none⟩) (by show w.heap.size ≤ w.heap.size + 1; omega) (.int .i64 0)
  have ho : ∀ g, g ≠ w.heap.size + 1 → (((w2.setCell ⟨w.heap.size + 1, 0, none⟩ (.int .i64 0)).setCell ⟨w.heap.size + 1, 1, none⟩ (.int .i64 0)).setCell ⟨w.heap.size + 1, 2, none⟩ (.int .i64 0)).heap[g]? = w2.heap[g]? := fun g hg => by
    have e : ∀ (Z : World) (q : Nat) (u : Value), (Z.setCell ⟨w.heap.size + 1, q, none⟩ u).heap[g]? = Z.heap[g]? := fun Z q u => Below.heap_setCell _ _ _ _ (fun x => hg (by simpa using x))
    rw [e, e, e]
  have hO := (O3.low H2.out.2.2.1 HB.out.size).far H2.out.1 (by decide) (by decide) (by decide) ho
  obtain ⟨V, hV⟩ : ∃ V, ((w2.setCell ⟨w.heap.size + 1, 0, none⟩ (.int .i64 0)).setCell ⟨w.heap.size + 1, 1, none⟩ (.int .i64 0)).setCell ⟨w.heap.size + 1, 2, none⟩ (.int .i64 0) = V := ⟨_, rfl⟩
  rw [hV] at hs hb hO ⊢
  have t0 : V.cell? ⟨w.heap.size + 1, 0, none⟩ = some (.int .i64 0) := box_cell (i := 0) hs rfl
  have t1 : V.cell? ⟨w.heap.size + 1, 1, none⟩ = some (.int .i64 0) := box_cell (i := 1) hs rfl
  have t2 : V.cell? ⟨w.heap.size + 1, 2, none⟩ = some (.int .i64 0) := box_cell (i := 2) hs rfl
  refine bodyPost_ret (v := .tuple #[u, ints3 0 0 0]) ?_ rfl ⟨u, ysss, rfl, hO, H2.out.2.2.2.1, H2.out.2.2.2.2, hb⟩
  simp [results, Tryd.results9, go_sem, t0, t1, t2]

end Go.Proofs.YtocfocjnnjdcgaaDoor
