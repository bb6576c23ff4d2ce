/-
  What the program tells of all threads: which registers clash.
  What the program says of colours.
-/
import Derived.Test.YtocfocjnnjdcgaaDoorRMay
import Derived.Test.YtocfocjnnjdcgaaDoorLivG
import Derived.Test.YtocfocjnnjdcgaaDoorAlcA
import Derived.Test.YtocfocjnnjdcgaaDoorBox
import Derived.Test.YtocfocjnnjdcgaaDoorCOkP
import Derived.BigRegion
namespace Go.Proofs.YtocfocjnnjdcgaaDoor
section
open Go.RowKit Go.Shelf

set_option maxRecDepth 100000 in
set_option maxHeartbeats 1600000 in
theorem clash1_any (w : World) (pb : Nat) (ca : Option Addr) (l cc : Nat) (X : Nat → Nat → Int) (rg m lk : Nat) (hl : l ≤ 1000) (hrg : rg ≤ 200) (hord : ∀ i, i < l → OrdAt w ca i (X i 0) (X i 1) (X i 2) (X i 3)) (hok : ∀ i, i < l → ordE rg m lk l (X i 0) (X i 1) (X i 2) (X i 3) = 0) (hT : TabZ w) (hpb : w.cell? ⟨pb, 3, none⟩ = some (.int .i64 rg)) :
    Calls Tryd.prog 29 #[.slice ca l cc, .pointer (some ⟨pb, 0, none⟩)] w fun e w' => ∃ fb F, e = .returned (.slice (some ⟨fb, 0, none⟩) rg rg) ∧ RowZ w' w.heap.size fb rg F ∧ (∀ j, W64 (F j)) ∧ (∀ a b, has (F a) b = true ↔ Cl X l a b) ∧ Below w.heap.size w w' := by
  have HCL := Hid.out (p := Hid _) (clashes_any w ca l cc X rg m lk hl hrg hord hok hT)
  clear hord hok hT
  go_enter Tryd.func29, Tryd.ntmps29
  go_wp2_with fail
  refine Calls.mono HCL.out ?_
  rintro e w2 ⟨fb, F, rfl, h1, h2, h3, h4⟩
  have H := Hid.out (p := Hid _) (And.intro h1 (And.intro h2 (And.intro h3 h4)))
  clear h1 h2 h3 h4
  go_wp2_with fail
  refine bodyPost_ret (v := .slice (some ⟨fb, 0, none⟩) rg rg) (by simp [results, Tryd.results29, go_sem]) rfl ⟨fb, F, rfl, H.out⟩

set_option maxRecDepth 100000 in
set_option maxHeartbeats 3200000 in
theorem clashP_no (w : World) (ca : Option Addr) (n cc : Nat) (wa : Option Addr) (m wc : Nat) (lk rg x y z : Int) (hx : x ≠ 0) (HC : Hid (∀ W, Below w.heap.size w W → Calls Tryd.prog 41 #[prgV ca n cc wa m wc lk rg] W fun e w' => e = .returned (ints3 x y z) ∧ Below W.heap.size W w')) :
    Calls Tryd.prog 9 #[prgV ca n cc wa m wc lk rg] w fun e w' => e = .returned (.tuple #[nilV, ints3 x y z]) ∧ Below w.heap.size w w' := by
  have HB := Hid.out (p := Hid _) (below_two w (.cells #[.slice ca n cc, .slice wa m wc, .int .i64 lk, .int .i64 rg] 25) (.cells #[.int .i64 0, .int .i64 0, .int .i64 0] 30))
  have HTO : Hid (∀ fv, Calls Tryd.prog 27 #[prgV ca n cc wa m wc lk rg, fv] ((w.alloc (.cells #[.slice ca n cc, .slice wa m wc, .int .i64 lk, .int .i64 rg] 25)).alloc (.cells #[.int .i64 0, .int .i64 0, .int .i64 0] 30)) fun e w' => e = .returned (.tuple #[nilV, ints3 x y z]) ∧ Below ((w.alloc (.cells #[.slice ca n cc, .slice wa m wc, .int .i64 lk, .int .i64 rg] 25)).alloc (.cells #[.int .i64 0, .int .i64 0, .int .i64 0] 30)).heap.size ((w.alloc (.cells #[.slice ca n cc, .slice wa m wc, .int .i64 lk, .int .i64 rg] 25)).alloc (.cells #[.int .i64 0, .int .i64 0, .int .i64 0] 30)) w') := fun fv => told_no _ fv ca n cc wa m wc lk rg x y z hx (fun W hW => HC.out W (HB.out.trans (hW.mono HB.out.size)))
  have HFB : Hid (∀ V, Below ((w.alloc (.cells #[.slice ca n cc, .slice wa m wc, .int .i64 lk, .int .i64 rg] 25)).alloc (.cells #[.int .i64 0, .int .i64 0, .int .i64 0] 30)).heap.size ((w.alloc (.cells #[.slice ca n cc, .slice wa m wc, .int .i64 lk, .int .i64 rg] 25)).alloc (.cells #[.int .i64 0, .int .i64 0, .int .i64 0] 30)) V → V.heap[w.heap.size + 1]? = some (.cells #[.int .i64 0, .int .i64 0, .int .i64 0] 30)) := fun V hV => (hV.block _ (by simp)).trans (by
    have := heap_alloc_new (w.alloc (.cells #[.slice ca n cc, .slice wa m wc, .int .i64 lk, .int .i64 rg] 25)) (.cells #[.int .i64 0, .int .i64 0, .int .i64 0] 30)
    rwa [World.size_alloc] at this)
  clear HC hx
  go_enter Tryd.func9, Tryd.ntmps9
  go_wp2_with fail
  refine Calls.mono (HTO.out _) ?_
  rintro e w2 ⟨rfl, hb2⟩
  have hfb := HFB.out w2 hb2
  have H2 := Hid.out (p := Hid _) (And.intro hfb (HB.out.trans (hb2.mono HB.out.size)))
  have c0 := box_cell (i := 0) hfb rfl
  have c1 := box_cell (i := 1) hfb rfl
  have c2 := box_cell (i := 2) hfb rfl
  have f0 := box_free (i := 0) hfb
  have f1 := box_free (i := 1) hfb
  have f2 := box_free (i := 2) hfb
  clear hfb hb2
  go_wp2_with fail
  have hs := (heap_set_same (i := 2) (u := .int .i64 z) (heap_set_same (i := 1) (u := .int .i64 y) (heap_set_same (i := 0) (u := .int .i64 x) H2.out.1)))
  have hb := ((H2.out.2.setCell (p := ⟨w.heap.size + 1, 0, none⟩) (by show w.heap.size ≤ w.heap.size + 1; omega) (.int .i64 x)).setCell (p := ⟨w.heap.size + 1, 1, none⟩) (by show w.heap.size ≤ w.heap.size + 1; omega) (.int .i64 y)).setCell (p := ⟨w.heap.size + 1, 2, none⟩) (by show w.heap.size ≤ w.heap.size + 1; omega) (.int .i64 z)
  obtain ⟨V, hV⟩ : ∃ V, ((w2.setCell ⟨w.heap.size + 1, 0, none⟩ (.int .i64 x)).setCell ⟨w.heap.size + 1, 1, none⟩ (.int .i64 y)).setCell ⟨w.heap.size + 1, 2, none⟩ (.int .i64 z) = V := ⟨_, rfl⟩
  rw [hV] at hs hb ⊢
  have t0 : V.cell? ⟨w.heap.size + 1, 0, none⟩ = some (.int .i64 x) := box_cell (i := 0) hs rfl
  have t1 : V.cell? ⟨w.heap.size + 1, 1, none⟩ = some (.int .i64 y) := box_cell (i := 1) hs rfl
  have t2 : V.cell? ⟨w.heap.size + 1, 2, none⟩ = some (.int .i64 z) := box_cell (i := 2) hs rfl
  refine bodyPost_ret (v := .tuple #[nilV, ints3 x y z]) ?_ rfl ⟨rfl, hb⟩
  simp [results, Tryd.results9, go_sem, t0, t1, t2]

set_option maxRecDepth 100000 in
set_option maxHeartbeats 3200000 in
theorem clashP_yes (w : World) (ca : Option Addr) (n cc : Nat) (wa : Option Addr) (m wc lk rg : Nat) (A : Nat → Option Addr) (L C : Nat → Nat) (X : Nat → Nat → Nat → Int) (hp : PIn w ca n A L C X) (hc : COk n L X m lk rg) (hT : TabZ w)
    (HC : Hid (∀ W, Below w.heap.size w W → Calls Tryd.prog 41 #[prgV ca n cc wa m wc lk rg] W fun e w' => e = .returned (ints3 0 0 0) ∧ Below W.heap.size W w')) :
    Calls Tryd.prog 9 #[prgV ca n cc wa m wc lk rg] w fun e w' => ∃ u ysss, e = .returned (.tuple #[u, ints3 0 0 0]) ∧ O3 w' w.heap.size u ysss ∧ ysss.length = n ∧ (∀ t, t < n → ∃ S, (∀ a b, has (S a) b = true ↔ Cl (X t) (L t) a b) ∧ ysss.getD t [] = tellS S (rg)) ∧ Below w.heap.size w w' := by
  have HB := Hid.out (p := Hid _) (below_two w (.cells #[.slice ca n cc, .slice wa m wc, .int .i64 lk, .int .i64 rg] 25) (.cells #[.int .i64 0, .int .i64 0, .int .i64 0] 30))
  have HFB : Hid (∀ V, Below ((w.alloc (.cells #[.slice ca n cc, .slice wa m wc, .int .i64 lk, .int .i64 rg] 25)).alloc (.cells #[.int .i64 0, .int .i64 0, .int .i64 0] 30)).heap.size ((w.alloc (.cells #[.slice ca n cc, .slice wa m wc, .int .i64 lk, .int .i64 rg] 25)).alloc (.cells #[.int .i64 0, .int .i64 0, .int .i64 0] 30)) V → V.heap[w.heap.size + 1]? = some (.cells #[.int .i64 0, .int .i64 0, .int .i64 0] 30) ∧ V.heap[w.heap.size]? = some (.cells #[.slice ca n cc, .slice wa m wc, .int .i64 lk, .int .i64 rg] 25)) := fun V hV => ⟨(hV.block _ (by simp)).trans (by
    have := heap_alloc_new (w.alloc (.cells #[.slice ca n cc, .slice wa m wc, .int .i64 lk, .int .i64 rg] 25)) (.cells #[.int .i64 0, .int .i64 0, .int .i64 0] 30)
    rwa [World.size_alloc] at this), (hV.block _ (by simp; omega)).trans (box_later (heap_alloc_new w _) _)⟩
  obtain ⟨W0, hW0⟩ : ∃ V, ((w.alloc (.cells #[.slice ca n cc, .slice wa m wc, .int .i64 lk, .int .i64 rg] 25)).alloc (.cells #[.int .i64 0, .int .i64 0, .int .i64 0] 30)) = V := ⟨_, rfl⟩
  rw [hW0] at HB HFB
  have HTO : Hid (Calls Tryd.prog 27 #[prgV ca n cc wa m wc lk rg, .func (.func 29) #[] #[.pointer (some ⟨w.heap.size, 0, none⟩)]] W0 fun e w' => ∃ u ysss, e = .returned (.tuple #[u, ints3 0 0 0]) ∧ O3 w' W0.heap.size u ysss ∧ ysss.length = n ∧ (∀ t, t < n → ∃ S, (∀ a b, has (S a) b = true ↔ Cl (X t) (L t) a b) ∧ ysss.getD t [] = tellS S (rg)) ∧ Below W0.heap.size W0 w') :=
    told_yes W0 29 #[.pointer (some ⟨w.heap.size, 0, none⟩)] (enters_of Tryd.func29 (by kernel_rfl) rfl) ca n cc wa m wc lk rg A L C X (fun t => rg) (fun t S => ∀ a b, has (S a) b = true ↔ Cl (X t) (L t) a b) hc.n4 (fun t ht => by have := hc.rg2; omega) (hp.below HB.out) (TabZ.below hT HB.out) (fun W hW => HC.out W (HB.out.trans (hW.mono HB.out.size)))
      (fun V hV t ht => by
        have hV2 := HB.out.trans (hV.mono HB.out.size)
        have hpv := hp.below hV2
        have hord : ∀ i, i < L t → OrdAt V (A t) i (X t i 0) (X t i 1) (X t i 2) (X t i 3) := fun i hi => hpv.ord t i ht hi
        have hL := hc.L4 t ht
        have hrg := hc.rg2
        refine (clash1_any V w.heap.size (A t) (L t) (C t) (X t) rg m lk hL hrg hord (fun i hi => hc.ord t i ht hi) (TabZ.below hT hV2) (box_cell (i := 3) (HFB.out V hV).2 rfl)).mono fun e w' h => ?_
        obtain ⟨ab, S, h1, h2, h3, h4, h5⟩ := h
        exact ⟨ab, S, h1, h2, h3, h4, h5⟩)
  have HW0 := Hid.out (p := Hid _) hW0
  clear HC hT hp hc hW0
  go_enter Tryd.func9, Tryd.ntmps9
  go_wp2_with fail
  rw [HW0.out]
  refine Calls.mono HTO.out ?_
  rintro e w2 ⟨u, ysss, rfl, hO2, hl2, hq2, hb2⟩
  have hfb := (HFB.out w2 hb2).1
  have H2 := Hid.out (p := Hid _) (And.intro hfb (And.intro (HB.out.trans (hb2.mono HB.out.size)) (And.intro hO2 (And.intro hl2 hq2))))
  have c0 := box_cell (i := 0) hfb rfl
  have c1 := box_cell (i := 1) hfb rfl
  have c2 := box_cell (i := 2) hfb rfl
  have f0 := box_free (i := 0) hfb
  have f1 := box_free (i := 1) hfb
  have f2 := box_free (i := 2) hfb
  clear hfb hb2 hO2 hl2 hq2
  go_wp2_with fail
  have hs := (heap_set_same (i := 2) (u := .int .i64 0) (heap_set_same (i := 1) (u := .int .i64 0) (heap_set_same (i := 0) (u := .int .i64 0) H2.out.1)))
  have hb := ((H2.out.2.1.setCell (p := ⟨w.heap.size + 1, 0, none⟩) (by show w.heap.size ≤ w.heap.size + 1; omega) (.int .i64 0)).setCell (p := ⟨w.heap.size + 1, 1, none⟩) (by show w.heap.size ≤ w.heap.size + 1; omega) (.int .i64 0)).setCell (p := ⟨w.heap.size + 1, 2, none⟩) (by show w.heap.size ≤ w.heap.size + 1; omega) (.int .i64 0)
  have ho : ∀ g, g ≠ w.heap.size + 1 → (((w2.setCell ⟨w.heap.size + 1, 0, none⟩ (.int .i64 0)).setCell ⟨w.heap.size + 1, 1, none⟩ (.int .i64 0)).setCell ⟨w.heap.size + 1, 2, none⟩ (.int .i64 0)).heap[g]? = w2.heap[g]? := fun g hg => by
    have e : ∀ (Z : World) (q : Nat) (u : Value), (Z.setCell ⟨w.heap.size + 1, q, none⟩ u).heap[g]? = Z.heap[g]? := fun Z q u => Below.heap_setCell _ _ _ _ (fun x => hg (by simpa using x))
    rw [e, e, e]
  have hO := (O3.low H2.out.2.2.1 HB.out.size).far H2.out.1 (by decide) (by decide) (by decide) ho
  obtain ⟨V, hV⟩ : ∃ V, ((w2.setCell ⟨w.heap.size + 1, 0, none⟩ (.int .i64 0)).setCell ⟨w.heap.size + 1, 1, none⟩ (.int .i64 0)).setCell ⟨w.heap.size + 1, 2, none⟩ (.int .i64 0) = V := ⟨_, rfl⟩
  rw [hV] at hs hb hO ⊢
  have t0 : V.cell? ⟨w.heap.size + 1, 0, none⟩ = some (.int .i64 0) := box_cell (i := 0) hs rfl
  have t1 : V.cell? ⟨w.heap.size + 1, 1, none⟩ = some (.int .i64 0) := box_cell (i := 1) hs rfl
  have t2 : V.cell? ⟨w.heap.size + 1, 2, none⟩ = some (.int .i64 0) := box_cell (i := 2) hs rfl
  refine bodyPost_ret (v := .tuple #[u, ints3 0 0 0]) ?_ rfl ⟨u, ysss, rfl, hO, H2.out.2.2.2.1, H2.out.2.2.2.2, hb⟩
  simp [results, Tryd.results9, go_sem, t0, t1, t2]
end

section
open Go.RowKit

/-- What Check tells. -/
def AckQ (w : World) (P : Prop) (e : Ending) (w' : World) : Prop := ∃ b, e = .returned (.tuple #[.bool b, ints3 0 0 0]) ∧ (b = true ↔ P) ∧ Below w.heap.size w w'
theorem set3_all {w W : World} (h : Below w.heap.size w W) {g : Nat} (hg : w.heap.size ≤ g) {a b c : Value} (hb : W.heap[g]? = some (.cells #[a, b, c] 30)) (x y z : Value) (o : Obj) :
    Below w.heap.size w ((((W.setCell ⟨g, 0, none⟩ x).setCell ⟨g, 1, none⟩ y).setCell ⟨g, 2, none⟩ z).alloc o) ∧ ((((W.setCell ⟨g, 0, none⟩ x).setCell ⟨g, 1, none⟩ y).setCell ⟨g, 2, none⟩ z).alloc o).cell? ⟨g, 0, none⟩ = some x ∧ ((((W.setCell ⟨g, 0, none⟩ x).setCell ⟨g, 1, none⟩ y).setCell ⟨g, 2, none⟩ z).alloc o).cell? ⟨g, 1, none⟩ = some y ∧ ((((W.setCell ⟨g, 0, none⟩ x).setCell ⟨g, 1, none⟩ y).setCell ⟨g, 2, none⟩ z).alloc o).cell? ⟨g, 2, none⟩ = some z := by
  have h1 := box_later (set3_is hb x y z) o
  have h2 := set3_low h hg x y z
  exact ⟨h2.alloc h2.size _, box_cell h1 rfl, box_cell h1 rfl, box_cell h1 rfl⟩

/-- What a thread's told clashes are. -/
theorem told_cl {X : Nat → Nat → Int} {l rg m lk : Nat} (hrg : rg ≤ 200) (hok : ∀ i, i < l → ordE rg m lk l (X i 0) (X i 1) (X i 2) (X i 3) = 0) {Sx : Nat → Nat → Nat} (h : ∀ a b, has (Sx a) b = true ↔ Cl X l a b) {r : Nat} (hr : r < rg) :
    (∀ x, x ∈ (tellS Sx rg).getD r [] → ∃ s : Nat, x = (s : Int) ∧ s < rg) ∧ (∀ s : Nat, s < rg → ((s : Int) ∈ (tellS Sx rg).getD r [] ↔ Cl X l r s)) ∧ ((tellS Sx rg).getD r []).length ≤ 256 := by
  rw [tellS_at hr]
  refine ⟨fun x hx => ?_, fun s hs => ⟨fun hx => ?_, fun hc => ?_⟩, lstP_len _ _⟩
  · obtain ⟨s, e, _, h2⟩ := lstP_mem hx
    exact ⟨s, e, (Cl.reg hok ((h r s).1 h2)).2⟩
  · obtain ⟨s', e, _, h2⟩ := lstP_mem hx
    obtain rfl : s = s' := by omega
    exact (h r s).1 h2
  · exact lstP_in (by omega) ((h r s).2 hc)

set_option maxRecDepth 100000 in
set_option maxHeartbeats 3200000 in
theorem acheck_yes (w : World) (ca : Option Addr) (n cc : Nat) (wa : Option Addr) (m wc lk rg : Nat) (A : Nat → Option Addr) (L C : Nat → Nat) (X : Nat → Nat → Nat → Int) (ka : Option Addr) (kn kc : Nat) (K : List (List Int)) (hp : PIn w ca n A L C X) (hc : COk n L X m lk rg) (hT : TabZ w) (hK : CIn w ka K) (hkn : K.length = kn) (hk100 : kn ≤ 100)
    (HC : Hid (∀ W, Below w.heap.size w W → Calls Tryd.prog 41 #[prgV ca n cc wa m wc lk rg] W fun e w' => e = .returned (ints3 0 0 0) ∧ Below W.heap.size W w')) :
    Calls Tryd.prog 37 #[prgV ca n cc wa m wc lk rg, .slice ka kn kc] w (AckQ w (ColP K n L X rg)) := by
  obtain ⟨hS, hP, hF⟩ := two_at w (.cells #[.slice ca n cc, .slice wa m wc, .int .i64 lk, .int .i64 rg] 25) (.cells #[.int .i64 0, .int .i64 0, .int .i64 0] 30)
  obtain ⟨S, hSS⟩ : ∃ V, (w.alloc (.cells #[.slice ca n cc, .slice wa m wc, .int .i64 lk, .int .i64 rg] 25)).alloc (.cells #[.int .i64 0, .int .i64 0, .int .i64 0] 30) = V := ⟨_, rfl⟩
  rw [hSS] at hS hP hF
  have HSS := Hid.out (p := Hid _) hSS
  have HCL : Hid (Calls Tryd.prog 9 #[prgV ca n cc wa m wc lk rg] S fun e w' => ∃ u ysss, e = .returned (.tuple #[u, ints3 0 0 0]) ∧ Hid (O3 w' S.heap.size u ysss ∧ ysss.length = n ∧ (∀ t, t < n → ∃ S, (∀ a b, has (S a) b = true ↔ Cl (X t) (L t) a b) ∧ ysss.getD t [] = tellS S (rg)) ∧ Below S.heap.size S w')) := (clashP_yes S ca n cc wa m wc lk rg A L C X (hp.below hS) hc (hT.below hS) (fun W hW => HC.out W (hS.trans (hW.mono hS.size)))).mono fun e w' ⟨u, ysss, h1, h2⟩ => ⟨u, ysss, h1, h2⟩
  have HF := Hid.out (p := Hid _) (And.intro hS (And.intro hP hF))
  have HKC : Hid (CIn w ka K) := hK
  have HKN := Hid.out (p := Hid _) hkn
  have HCO := Hid.out (p := Hid _) hc
  have hrg := hc.rg2
  have hn4 := hc.n4
  clear hS hP hF hSS HC hp hc hT hK hkn
  go_enter Tryd.func37, Tryd.ntmps37
  go_wp2_with fail
  rw [HSS.out]
  refine Calls.mono HCL.out ?_
  rintro e w1 ⟨u, ysss, rfl, H1⟩
  obtain ⟨ua, uc, rfl⟩ := H1.out.1.form
  have hb1 := H1.out.2.2.2
  have hu : Below w1.heap.size w1 (w1.alloc (.cells #[.int .i64 0, .int .i64 0, .int .i64 0] 30)) := below_one _ _
  have hbS := hb1.trans (hu.mono hb1.size)
  obtain ⟨yn, hyn⟩ : ∃ q, ysss.length = q := ⟨_, rfl⟩
  have HYN := Hid.out (p := Hid _) hyn
  obtain rfl : yn = n := by rw [← hyn]; exact H1.out.2.1
  rw [hyn]
  have hP1 := blk hbS HF.out.2.1
  have hF1 := blk hb1 HF.out.2.2
  have hFW := blk hbS HF.out.2.2
  have p0 := box_cell (i := 0) hP1 rfl
  have hsz : w.heap.size + 1 < w1.heap.size := box_lt hF1
  clear hyn
  by_cases hkk : kn = yn
  · subst hkk
    obtain ⟨W1, hW1⟩ : ∃ V, w1.alloc (.cells #[.int .i64 0, .int .i64 0, .int .i64 0] 30) = V := ⟨_, rfl⟩
    have HW1 := Hid.out (p := Hid _) hW1
    rw [hW1] at hu hbS hP1 hFW
    have HAT1 : Hid (∀ V, Below W1.heap.size W1 V → Below w.heap.size w V ∧ V.heap[w.heap.size]? = some (.cells #[.slice ca kn cc, .slice wa m wc, .int .i64 lk, .int .i64 rg] 25) ∧ V.heap[w.heap.size + 1]? = some (.cells #[.int .i64 0, .int .i64 0, .int .i64 0] 30) ∧ O3 V S.heap.size (.slice ua kn uc) ysss) := fun V hV => by
      have hO := H1.out.1
      rw [HYN.out] at hO
      exact ⟨HF.out.1.trans ((hbS.trans (hV.mono hbS.size)).mono HF.out.1.size), blk hV hP1, blk hV hFW, hO.below (hu.trans (hV.mono hu.size))⟩
    clear hb1 hu hbS hF1 hFW hP1 hW1 hsz HCL HSS
    have hkb : ((kn : Int) != (kn : Int)) = false := by simp
    go_wp2_with fail
    rw [HW1.out]
    clear p0 HW1
    go_loopw [28] (fun i wr => ∃ t : Nat, t ≤ kn ∧ i = .int .i64 t ∧ Hid ((∀ q, q < t → ColT (K.getD q []) (Cl (X q) (L q)) rg) ∧ Below W1.heap.size W1 wr)) (fun i _ => kn - (intOf i).toNat)
    case atStart => exact ⟨0, Nat.zero_le _, rfl, fun q hq => absurd hq (Nat.not_lt_zero _), Below.refl _ _⟩
    case round =>
      obtain ⟨t, ht, rfl, HI⟩ := hrel
      obtain ⟨hwV, hPV, hFV, hOV⟩ := HAT1.out wr HI.out.2
      by_cases htn : t < kn
      · have htI : (t : Int) < (kn : Int) := by omega
        obtain ⟨kb, ko, kca, kcc, rfl, hkc, hks⟩ := (HKC.out.below hwV) t (by rw [HKN.out]; exact htn)
        obtain ⟨ub, x, rfl, -, hux, hxO⟩ := hOV.at (k := t) (by rw [HYN.out]; exact htn)
        obtain ⟨Sx, hSx, hyt⟩ := H1.out.2.2.1 t htn
        rw [hyt] at hxO
        obtain ⟨xa, xc, rfl⟩ := hxO.form
        rw [tellS_len] at hux hxO
        have p3 := box_cell (i := 3) hPV rfl
        obtain ⟨k, hk⟩ : ∃ k, K.getD t [] = k := ⟨_, rfl⟩
        rw [hk] at hkc hks
        have HKT := Hid.out (p := Hid _) hk
        obtain ⟨kl, hkl⟩ : ∃ q, k.length = q := ⟨_, rfl⟩
        rw [hkl] at hkc
        have HKL := Hid.out (p := Hid _) hkl
        by_cases hlen : kl = rg
        · subst hlen
          have hcl := fun r (hr : r < kl) => told_cl hrg (HCO.out.ord t · htn) hSx hr
          have HMB := Hid.out (p := Hid _) (maybe_any wr kca kcc kl k xa kl xc S.heap.size (tellS Sx kl) (Cl (X t) (L t)) hks hkl hrg hxO (by rw [tellS_len]; exact Nat.le_refl _) (fun r hr => ⟨(hcl r hr).1, (hcl r hr).2.1⟩) (fun r hr => (hcl r hr).2.2))
          have hlb : ((kl : Int) != (kl : Int)) = false := by simp
          clear hks hk hkl hxO hSx hyt hcl hwV hPV hFV hOV
          go_wp2_with fail
          refine Calls.mono HMB.out ?_
          rintro e w5 ⟨b, rfl, hb, hb5⟩
          have HB5 := Hid.out (p := Hid _) (And.intro hb (HI.out.2.trans (hb5.mono HI.out.2.size)))
          clear hb hb5 HMB hkc hux p3
          cases b with
          | true =>
            have HNX : Hid (∀ q, q < t + 1 → ColT (K.getD q []) (Cl (X q) (L q)) kl) := fun q hq => by
              by_cases e : q = t
              · rw [e, HKT.out]
                exact ⟨HKL.out, HB5.out.1.1 rfl⟩
              · exact HI.out.1 q (by omega)
            go_wp2_with fail
            go_roundw
            case rel => exact ⟨t + 1, by omega, by go_num, HNX.out, HB5.out.2⟩
            case measure => simp [intOf]; omega
          | false =>
            have HNO : Hid (¬ ColP K kn L X kl) := fun h => by
              have h1 := (h.2 t htn).2
              rw [HKT.out] at h1
              have h2 := HB5.out.1.2 h1
              cases h2
            obtain ⟨hwV, -, hFV, -⟩ := HAT1.out w5 HB5.out.2
            have u0 := box_cell (i := 0) hFV rfl
            have u1 := box_cell (i := 1) hFV rfl
            have u2 := box_cell (i := 2) hFV rfl
            have uf : ∀ i, w5.frozen? ⟨w.heap.size + 1, i, none⟩ = false := fun i => box_free hFV
            have HR := Hid.out (p := Hid _) (And.intro (set3_low hwV (F := w.heap.size + 1) (by omega) (.int .i64 0) (.int .i64 0) (.int .i64 0)) (set3_is hFV (.int .i64 0) (.int .i64 0) (.int .i64 0)))
            have r0 := Hid.out (p := Hid _) (box_cell (i := 0) HR.out.2 rfl)
            have r1 := Hid.out (p := Hid _) (box_cell (i := 1) HR.out.2 rfl)
            have r2 := Hid.out (p := Hid _) (box_cell (i := 2) HR.out.2 rfl)
            clear hwV hFV
            go_wp2_with fail
            refine bodyPost_ret (v := .tuple #[.bool false, ints3 0 0 0]) (by simp [results, Tryd.results37, go_sem, r0.out, r1.out, r2.out]) rfl ⟨false, rfl, ⟨fun h => (by cases h), fun h => absurd h HNO.out⟩, ?_⟩
            exact HR.out.1
        · have hlb : ((kl : Int) != (rg : Int)) = true := by simp; omega
          have hlb2 : ((kl : Int) == (rg : Int)) = false := by simp; omega
          have HNO : Hid (¬ ColP K kn L X rg) := fun h => by
            have h1 := (h.2 t htn).1
            rw [HKT.out, HKL.out] at h1
            exact hlen h1
          clear hks hk hkl hxO hSx hyt hOV hPV
          have u0 := box_cell (i := 0) hFV rfl
          have u1 := box_cell (i := 1) hFV rfl
          have u2 := box_cell (i := 2) hFV rfl
          have uf : ∀ i, wr.frozen? ⟨w.heap.size + 1, i, none⟩ = false := fun i => box_free hFV
          have HR := Hid.out (p := Hid _) (And.intro (set3_low hwV (F := w.heap.size + 1) (by omega) (.int .i64 0) (.int .i64 0) (.int .i64 0)) (set3_is hFV (.int .i64 0) (.int .i64 0) (.int .i64 0)))
          have r0 := Hid.out (p := Hid _) (box_cell (i := 0) HR.out.2 rfl)
          have r1 := Hid.out (p := Hid _) (box_cell (i := 1) HR.out.2 rfl)
          have r2 := Hid.out (p := Hid _) (box_cell (i := 2) HR.out.2 rfl)
          clear hwV hFV
          go_wp2_with fail
          refine bodyPost_ret (v := .tuple #[.bool false, ints3 0 0 0]) (by simp [results, Tryd.results37, go_sem, r0.out, r1.out, r2.out]) rfl ⟨false, rfl, ⟨fun h => (by cases h), fun h => absurd h HNO.out⟩, ?_⟩
          exact HR.out.1
      · obtain rfl : t = kn := by omega
        clear hPV hOV
        have u0 := box_cell (i := 0) hFV rfl
        have u1 := box_cell (i := 1) hFV rfl
        have u2 := box_cell (i := 2) hFV rfl
        have uf : ∀ i, wr.frozen? ⟨w.heap.size + 1, i, none⟩ = false := fun i => box_free hFV
        have HR := Hid.out (p := Hid _) (And.intro (set3_low hwV (F := w.heap.size + 1) (by omega) (.int .i64 0) (.int .i64 0) (.int .i64 0)) (set3_is hFV (.int .i64 0) (.int .i64 0) (.int .i64 0)))
        have r0 := Hid.out (p := Hid _) (box_cell (i := 0) HR.out.2 rfl)
        have r1 := Hid.out (p := Hid _) (box_cell (i := 1) HR.out.2 rfl)
        have r2 := Hid.out (p := Hid _) (box_cell (i := 2) HR.out.2 rfl)
        clear hwV hFV
        go_wp2_with fail
        refine bodyPost_ret (v := .tuple #[.bool true, ints3 0 0 0]) (by simp [results, Tryd.results37, go_sem, r0.out, r1.out, r2.out]) rfl ⟨true, rfl, ⟨fun _ => ⟨HKN.out, HI.out.1⟩, fun _ => rfl⟩, ?_⟩
        exact HR.out.1
  · have hkb : ((kn : Int) != (yn : Int)) = true := by simp; omega
    have hkb2 : ((kn : Int) == (yn : Int)) = false := by simp; omega
    have HNO : Hid (¬ ColP K yn L X rg) := fun h => hkk (by rw [← HKN.out]; exact h.1)
    have u0 : w1.cell? ⟨w.heap.size + 1, 0, none⟩ = some (.int .i64 0) := box_cell hF1 rfl
    have u1 : w1.cell? ⟨w.heap.size + 1, 1, none⟩ = some (.int .i64 0) := box_cell hF1 rfl
    have u2 : w1.cell? ⟨w.heap.size + 1, 2, none⟩ = some (.int .i64 0) := box_cell hF1 rfl
    have uf : ∀ i, w1.frozen? ⟨w.heap.size + 1, i, none⟩ = false := fun i => box_free hF1
    have n1 : w1.heap.size ≠ w.heap.size + 1 := by omega
    have n2 : w.heap.size + 1 ≠ w1.heap.size := by omega
    have HR := Hid.out (p := Hid _) (set3_all (HF.out.1.trans (hb1.mono HF.out.1.size)) (g := w.heap.size + 1) (by omega) hF1 (.int .i64 0) (.int .i64 0) (.int .i64 0) (.cells #[.int .i64 0, .int .i64 0, .int .i64 0] 30))
    clear hb1 hu hbS hP1 hF1 hFW HCL HSS
    go_wp2_with fail
    refine bodyPost_ret (v := .tuple #[.bool false, ints3 0 0 0]) (by simp [results, Tryd.results37, go_sem, HR.out.2.1, HR.out.2.2.1, HR.out.2.2.2]) rfl ⟨false, rfl, ⟨fun h => (by cases h), fun h => absurd h HNO.out⟩, ?_⟩
    exact HR.out.1
end

end Go.Proofs.YtocfocjnnjdcgaaDoor
