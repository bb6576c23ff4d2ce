/-
  The law of registers that are live, and of those that clash, for every program.
-/
import Derived.Test.YtocfocjnnjdcgaaDoorLivHl
import Derived.Test.YtocfocjnnjdcgaaDoorLivM
import Derived.Test.YtocfocjnnjdcgaaDoorLivJ
import Derived.Test.YtocfocjnnjdcgaaDoorIntsS
import Derived.Test.YtocfocjnnjdcgaaDoorCheckR3
import Derived.Test.YtocfocjnnjdcgaaDoorVast
import Derived.Test.YtocfocjnnjdcgaaDoorPChk
namespace Go.Proofs.YtocfocjnnjdcgaaDoor
open Go.RowKit Go.Shelf

/-- Two lists of the same numbers are the same. -/
theorem ints_lists (w : World) (a b : Option Addr) (ys : List Int) (c d : Nat) (ha : SIs w a ys) (hb : SIs w b ys) (hl : ys.length ≤ 1000) : Calls Tryd.prog 14 #[.slice a ys.length c, .slice b ys.length d] w fun e w' => e = .returned (.bool true) ∧ Below w.heap.size w w' :=
  ints_same a b ys.length c d (by omega) (fun i => ys.getD i 0) w (fun i hi => ha i hi) (fun i hi => hb i hi)

set_option maxRecDepth 100000 in
set_option maxHeartbeats 3200000 in
theorem live_no (w : World) (ca : Option Addr) (n cc : Nat) (wa : Option Addr) (m wc : Nat) (lk rg x y z : Int) (hx : x ≠ 0)
    (HV : Hid (∀ W, Below w.heap.size w W → Calls Tryd.prog 7 #[prgV ca n cc wa m wc lk rg] W fun e w' => ∃ b, e = .returned (.bool b) ∧ Below W.heap.size W w'))
    (HA : Hid (∀ W, Below w.heap.size w W → Calls Tryd.prog 8 #[prgV ca n cc wa m wc lk rg] W fun e w' => e = .returned (.tuple #[nilV, ints3 x y z]) ∧ Below W.heap.size W w'))
    (HC : Hid (∀ W, Below w.heap.size w W → Calls Tryd.prog 9 #[prgV ca n cc wa m wc lk rg] W fun e w' => e = .returned (.tuple #[nilV, ints3 x y z]) ∧ Below W.heap.size W w'))
    (HK : Hid (∀ W, Below w.heap.size w W → Calls Tryd.prog 10 #[prgV ca n cc wa m wc lk rg] W fun e w' => e = .returned (ints3 x y z) ∧ Below W.heap.size W w')) :
    Calls Tryd.prog 3 #[prgV ca n cc wa m wc lk rg] w fun e w' => e = .returned (.bool true) ∧ Below w.heap.size w w' := by
  have hx1 : (x != 0) = true := by simpa using hx
  have HB0 := Hid.out (p := Hid _) (below_one w (.cells #[.slice ca n cc, .slice wa m wc, .int .i64 lk, .int .i64 rg] 25))
  have hp0 := heap_alloc_new w (.cells #[.slice ca n cc, .slice wa m wc, .int .i64 lk, .int .i64 rg] 25)
  obtain ⟨W0, hW0⟩ : ∃ V, w.alloc (.cells #[.slice ca n cc, .slice wa m wc, .int .i64 lk, .int .i64 rg] 25) = V := ⟨_, rfl⟩
  rw [hW0] at HB0 hp0
  have HAT : Hid (∀ V, Below W0.heap.size W0 V → Below w.heap.size w V ∧ V.cell? ⟨w.heap.size, 0, none⟩ = some (.slice ca n cc) ∧ V.cell? ⟨w.heap.size, 1, none⟩ = some (.slice wa m wc) ∧ V.cell? ⟨w.heap.size, 2, none⟩ = some (.int .i64 lk) ∧ V.cell? ⟨w.heap.size, 3, none⟩ = some (.int .i64 rg)) := fun V hb => by
    have e1 := (hb.block w.heap.size (Array.getElem?_eq_some_iff.1 hp0).1).trans hp0
    exact ⟨HB0.out.trans (hb.mono HB0.out.size), box_cell e1 rfl, box_cell e1 rfl, box_cell e1 rfl, box_cell e1 rfl⟩
  have HW0 := Hid.out (p := Hid _) hW0
  clear hp0 hW0 hx
  go_enter Tryd.func3, Tryd.ntmps3
  go_wp2_with fail
  rw [HW0.out]
  refine Calls.mono (HV.out _ HB0.out) ?_
  rintro e w1 ⟨b, rfl, hb1⟩
  obtain ⟨hw1, p0, p1, p2, p3⟩ := HAT.out w1 hb1
  have H1 := Hid.out (p := Hid _) (And.intro hb1 hw1)
  clear HV HW0 hb1 hw1
  cases b with
  | true =>
    go_wp2_with fail
    go_ret
    exact ⟨rfl, H1.out.2⟩
  | false =>
    go_wp2_with fail
    refine Calls.mono (HA.out _ H1.out.2) ?_
    rintro e w2 ⟨rfl, hb2⟩
    have H2 := Hid.out (p := Hid _) (H1.out.1.trans (hb2.mono H1.out.1.size))
    obtain ⟨hw2, q0, q1, q2, q3⟩ := HAT.out w2 H2.out
    have u0 := cell_up q0
    have u1 := cell_up q1
    have u2 := cell_up q2
    have u3 := cell_up q3
    have HA2 : Hid (Below W0.heap.size W0 (w2.alloc (.cells #[.int .i64 x, .int .i64 y, .int .i64 z] 30)) ∧ Below w2.heap.size w2 (w2.alloc (.cells #[.int .i64 x, .int .i64 y, .int .i64 z] 30))) := ⟨Below.alloc H2.out H2.out.size _, (Below.refl _ _).alloc (Nat.le_refl _) _⟩
    have hF2 := heap_alloc_new w2 (.cells #[.int .i64 x, .int .i64 y, .int .i64 z] 30)
    clear hb2 p0 p1 p2 p3 hw2
    go_wp2_with fail
    refine Calls.mono (HC.out _ (HAT.out _ HA2.out.1).1) ?_
    rintro e w3 ⟨rfl, hb3⟩
    have H3 : Hid (Below W0.heap.size W0 w3 ∧ Below w2.heap.size w2 w3) := ⟨HA2.out.1.trans (hb3.mono HA2.out.1.size), HA2.out.2.trans (hb3.mono HA2.out.2.size)⟩
    have hF3 : w3.heap[w2.heap.size]? = some (.cells #[.int .i64 x, .int .i64 y, .int .i64 z] 30) := (hb3.block _ (by simp)).trans hF2
    obtain ⟨hw3, k0, k1, k2, k3⟩ := HAT.out w3 H3.out.1
    have v0 := cell_up k0
    have v1 := cell_up k1
    have v2 := cell_up k2
    have v3 := cell_up k3
    have HA3 : Hid (Below W0.heap.size W0 (w3.alloc (.cells #[.int .i64 x, .int .i64 y, .int .i64 z] 30)) ∧ Below w3.heap.size w3 (w3.alloc (.cells #[.int .i64 x, .int .i64 y, .int .i64 z] 30))) := ⟨Below.alloc H3.out.1 H3.out.1.size _, (Below.refl _ _).alloc (Nat.le_refl _) _⟩
    have hG3 := heap_alloc_new w3 (.cells #[.int .i64 x, .int .i64 y, .int .i64 z] 30)
    clear u0 u1 u2 u3 q0 q1 q2 q3 hb3 hw3 hF2
    go_wp2_with fail
    refine Calls.mono (HK.out _ (HAT.out _ HA3.out.1).1) ?_
    rintro e w4 ⟨rfl, hb4⟩
    have H4 : Hid (Below W0.heap.size W0 w4 ∧ Below w3.heap.size w3 w4 ∧ w4.heap[w2.heap.size]? = some (.cells #[.int .i64 x, .int .i64 y, .int .i64 z] 30) ∧ w4.heap[w3.heap.size]? = some (.cells #[.int .i64 x, .int .i64 y, .int .i64 z] 30)) := ⟨HA3.out.1.trans (hb4.mono HA3.out.1.size), HA3.out.2.trans (hb4.mono HA3.out.2.size), (hb4.block _ (Nat.lt_of_lt_of_le (Array.getElem?_eq_some_iff.1 hF3).1 HA3.out.2.size)).trans (box_later hF3 _), (hb4.block _ (by simp)).trans hG3⟩
    have f0 := cell_up (box_cell (i := 0) H4.out.2.2.1 rfl)
    have f1 := cell_up (box_cell (i := 1) H4.out.2.2.1 rfl)
    have f2 := cell_up (box_cell (i := 2) H4.out.2.2.1 rfl)
    have g0 := cell_up (box_cell (i := 0) H4.out.2.2.2 rfl)
    have g1 := cell_up (box_cell (i := 1) H4.out.2.2.2 rfl)
    have g2 := cell_up (box_cell (i := 2) H4.out.2.2.2 rfl)
    have HA4 : Hid (Below W0.heap.size W0 (w4.alloc (.cells #[.int .i64 x, .int .i64 y, .int .i64 z] 30)) ∧ Below w3.heap.size w3 (w4.alloc (.cells #[.int .i64 x, .int .i64 y, .int .i64 z] 30))) := ⟨Below.alloc H4.out.1 H4.out.1.size _, Below.alloc H4.out.2.1 H4.out.2.1.size _⟩
    clear v0 v1 v2 v3 k0 k1 k2 k3 hb4 hF3 hG3
    go_wp2
    go_ret
    exact ⟨rfl, (HAT.out _ HA4.out.1).1⟩

set_option maxRecDepth 100000 in
set_option maxHeartbeats 3200000 in
theorem live_yes (w : World) (ca : Option Addr) (n cc : Nat) (wa : Option Addr) (m wc lk rg : Nat) (A : Nat → Option Addr) (L C : Nat → Nat) (X : Nat → Nat → Nat → Int) (hp : PIn w ca n A L C X) (hc : COk n L X m lk rg)
    (HV : Hid (∀ W, Below w.heap.size w W → Calls Tryd.prog 7 #[prgV ca n cc wa m wc lk rg] W fun e w' => ∃ b, e = .returned (.bool b) ∧ Below W.heap.size W w'))
    (HA : Hid (∀ W, Below w.heap.size w W → Calls Tryd.prog 8 #[prgV ca n cc wa m wc lk rg] W fun e w' => ∃ u ysss, e = .returned (.tuple #[u, ints3 0 0 0]) ∧ O3 w' W.heap.size u ysss ∧ ysss.length = n ∧ (∀ t, t < n → ∃ S, (∀ i r, has (S i) r = true ↔ Lv (X t) (L t) r i) ∧ ysss.getD t [] = tellS S (L t + 1)) ∧ Below W.heap.size W w'))
    (HC : Hid (∀ W, Below w.heap.size w W → Calls Tryd.prog 9 #[prgV ca n cc wa m wc lk rg] W fun e w' => ∃ u ysss, e = .returned (.tuple #[u, ints3 0 0 0]) ∧ O3 w' W.heap.size u ysss ∧ ysss.length = n ∧ (∀ t, t < n → ∃ S, (∀ a b, has (S a) b = true ↔ Cl (X t) (L t) a b) ∧ ysss.getD t [] = tellS S rg) ∧ Below W.heap.size W w'))
    (HK : Hid (∀ W, Below w.heap.size w W → Calls Tryd.prog 10 #[prgV ca n cc wa m wc lk rg] W fun e w' => e = .returned (ints3 0 0 0) ∧ Below W.heap.size W w')) :
    Calls Tryd.prog 3 #[prgV ca n cc wa m wc lk rg] w fun e w' => e = .returned (.bool true) ∧ Below w.heap.size w w' := by
  have HSE : Hid (∀ V, Below w.heap.size w V → ∀ t, t < n → Calls Tryd.prog 11 #[.slice (A t) (L t) (C t), .int .i64 rg] V fun e w' => ∃ g G P, e = .returned (.slice (some ⟨g, 0, none⟩) (L t + 1) (L t + 1)) ∧ Grid V w' g (L t + 1) rg (L t + 1) G P ∧ (∀ i q, i ≤ L t → q < rg → ((P i).getD q false = true ↔ Lv (X t) (L t) q i))) := fun V hV t ht => rsets_any V (A t) (L t) (C t) (X t) rg m lk (hc.L4 t ht) hc.rg2 (fun i hi => (hp.below hV).ord t i ht hi) (fun i hi => hc.ord t i ht hi)
  have HCE : Hid (∀ V, Below w.heap.size w V → ∀ t, t < n → Calls Tryd.prog 12 #[.slice (A t) (L t) (C t), .int .i64 rg] V fun e w' => ∃ g G P, e = .returned (.slice (some ⟨g, 0, none⟩) rg rg) ∧ Grid V w' g rg rg rg G P ∧ (∀ a b, a < rg → b < rg → ((P a).getD b false = true ↔ Cl (X t) (L t) a b))) := fun V hV t ht => rclash_any V (A t) (L t) (C t) (X t) rg m lk (hc.L4 t ht) hc.rg2 (fun i hi => (hp.below hV).ord t i ht hi) (fun i hi => hc.ord t i ht hi)
  have HCO := Hid.out (p := Hid _) hc
  have HP := Hid.out (p := Hid _) hp
  have HB0 := Hid.out (p := Hid _) (below_one w (.cells #[.slice ca n cc, .slice wa m wc, .int .i64 lk, .int .i64 rg] 25))
  have hp0 := heap_alloc_new w (.cells #[.slice ca n cc, .slice wa m wc, .int .i64 lk, .int .i64 rg] 25)
  obtain ⟨W0, hW0⟩ : ∃ V, w.alloc (.cells #[.slice ca n cc, .slice wa m wc, .int .i64 lk, .int .i64 rg] 25) = V := ⟨_, rfl⟩
  rw [hW0] at HB0 hp0
  have HAT : Hid (∀ V, Below W0.heap.size W0 V → Below w.heap.size w V ∧ V.cell? ⟨w.heap.size, 0, none⟩ = some (.slice ca n cc) ∧ V.cell? ⟨w.heap.size, 1, none⟩ = some (.slice wa m wc) ∧ V.cell? ⟨w.heap.size, 2, none⟩ = some (.int .i64 lk) ∧ V.cell? ⟨w.heap.size, 3, none⟩ = some (.int .i64 rg)) := fun V hb => by
    have e1 := (hb.block w.heap.size (Array.getElem?_eq_some_iff.1 hp0).1).trans hp0
    exact ⟨HB0.out.trans (hb.mono HB0.out.size), box_cell e1 rfl, box_cell e1 rfl, box_cell e1 rfl, box_cell e1 rfl⟩
  have HW0 := Hid.out (p := Hid _) hW0
  clear hp0 hW0 hp hc
  go_enter Tryd.func3, Tryd.ntmps3
  go_wp2_with fail
  rw [HW0.out]
  refine Calls.mono (HV.out _ HB0.out) ?_
  rintro e w1 ⟨b, rfl, hb1⟩
  obtain ⟨hw1, p0, p1, p2, p3⟩ := HAT.out w1 hb1
  have H1 := Hid.out (p := Hid _) (And.intro hb1 hw1)
  clear HV HW0 hb1 hw1
  cases b with
  | true =>
    go_wp2_with fail
    go_ret
    exact ⟨rfl, H1.out.2⟩
  | false =>
    go_wp2_with fail
    refine Calls.mono (HA.out _ H1.out.2) ?_
    rintro e w2 ⟨u, ysss, rfl, hO2, hl2, hq2, hb2⟩
    obtain ⟨ua, uc, hu⟩ := hO2.form
    rw [hl2] at hu
    subst hu
    have HU := Hid.out (p := Hid _) (And.intro hO2 (And.intro hl2 hq2))
    clear hO2 hl2 hq2
    have H2 := Hid.out (p := Hid _) (H1.out.1.trans (hb2.mono H1.out.1.size))
    obtain ⟨hw2, q0, q1, q2, q3⟩ := HAT.out w2 H2.out
    have u0 := cell_up q0
    have u1 := cell_up q1
    have u2 := cell_up q2
    have u3 := cell_up q3
    have HA2 : Hid (Below W0.heap.size W0 (w2.alloc (.cells #[.int .i64 0, .int .i64 0, .int .i64 0] 30)) ∧ Below w2.heap.size w2 (w2.alloc (.cells #[.int .i64 0, .int .i64 0, .int .i64 0] 30))) := ⟨Below.alloc H2.out H2.out.size _, (Below.refl _ _).alloc (Nat.le_refl _) _⟩
    have hF2 := heap_alloc_new w2 (.cells #[.int .i64 0, .int .i64 0, .int .i64 0] 30)
    clear hb2 p0 p1 p2 p3 hw2
    go_wp2_with fail
    refine Calls.mono (HC.out _ (HAT.out _ HA2.out.1).1) ?_
    rintro e w3 ⟨v, zsss, rfl, hO3, hl3, hq3, hb3⟩
    have H3 : Hid (Below W0.heap.size W0 w3 ∧ Below w2.heap.size w2 w3) := ⟨HA2.out.1.trans (hb3.mono HA2.out.1.size), HA2.out.2.trans (hb3.mono HA2.out.2.size)⟩
    have hF3 : w3.heap[w2.heap.size]? = some (.cells #[.int .i64 0, .int .i64 0, .int .i64 0] 30) := (hb3.block _ (by simp)).trans hF2
    obtain ⟨hw3, k0, k1, k2, k3⟩ := HAT.out w3 H3.out.1
    have v0 := cell_up k0
    have v1 := cell_up k1
    have v2 := cell_up k2
    have v3 := cell_up k3
    have HA3 : Hid (Below W0.heap.size W0 (w3.alloc (.cells #[.int .i64 0, .int .i64 0, .int .i64 0] 30)) ∧ Below w3.heap.size w3 (w3.alloc (.cells #[.int .i64 0, .int .i64 0, .int .i64 0] 30))) := ⟨Below.alloc H3.out.1 H3.out.1.size _, (Below.refl _ _).alloc (Nat.le_refl _) _⟩
    have hG3 := heap_alloc_new w3 (.cells #[.int .i64 0, .int .i64 0, .int .i64 0] 30)
    obtain ⟨va, vc, hv⟩ := hO3.form
    rw [hl3] at hv
    subst hv
    have HZ := Hid.out (p := Hid _) (And.intro hO3 (And.intro hl3 hq3))
    clear hO3 hl3 hq3
    clear u0 u1 u2 u3 q0 q1 q2 q3 hb3 hw3 hF2
    go_wp2_with fail
    refine Calls.mono (HK.out _ (HAT.out _ HA3.out.1).1) ?_
    rintro e w4 ⟨rfl, hb4⟩
    have H4 : Hid (Below W0.heap.size W0 w4 ∧ Below w3.heap.size w3 w4 ∧ w4.heap[w2.heap.size]? = some (.cells #[.int .i64 0, .int .i64 0, .int .i64 0] 30) ∧ w4.heap[w3.heap.size]? = some (.cells #[.int .i64 0, .int .i64 0, .int .i64 0] 30)) := ⟨HA3.out.1.trans (hb4.mono HA3.out.1.size), HA3.out.2.trans (hb4.mono HA3.out.2.size), (hb4.block _ (Nat.lt_of_lt_of_le (Array.getElem?_eq_some_iff.1 hF3).1 HA3.out.2.size)).trans (box_later hF3 _), (hb4.block _ (by simp)).trans hG3⟩
    have f0 := cell_up (box_cell (i := 0) H4.out.2.2.1 rfl)
    have f1 := cell_up (box_cell (i := 1) H4.out.2.2.1 rfl)
    have f2 := cell_up (box_cell (i := 2) H4.out.2.2.1 rfl)
    have g0 := cell_up (box_cell (i := 0) H4.out.2.2.2 rfl)
    have g1 := cell_up (box_cell (i := 1) H4.out.2.2.2 rfl)
    have g2 := cell_up (box_cell (i := 2) H4.out.2.2.2 rfl)
    have HA4 : Hid (Below W0.heap.size W0 (w4.alloc (.cells #[.int .i64 0, .int .i64 0, .int .i64 0] 30)) ∧ Below w3.heap.size w3 (w4.alloc (.cells #[.int .i64 0, .int .i64 0, .int .i64 0] 30))) := ⟨Below.alloc H4.out.1 H4.out.1.size _, Below.alloc H4.out.2.1 H4.out.2.1.size _⟩
    clear v0 v1 v2 v3 k0 k1 k2 k3 hb4 hF3 hG3
    obtain ⟨hw5, j0, j1, j2, j3⟩ := HAT.out _ HA4.out.1
    have H5 : Hid (Below W0.heap.size W0 (w4.alloc (.cells #[.int .i64 0, .int .i64 0, .int .i64 0] 30)) ∧ O3 (w4.alloc (.cells #[.int .i64 0, .int .i64 0, .int .i64 0] 30)) w1.heap.size (.slice ua n uc) ysss ∧ O3 (w4.alloc (.cells #[.int .i64 0, .int .i64 0, .int .i64 0] 30)) (w2.alloc (.cells #[.int .i64 0, .int .i64 0, .int .i64 0] 30)).heap.size (.slice va n vc) zsss) := ⟨HA4.out.1, HU.out.1.below (H3.out.2.trans (HA4.out.2.mono H3.out.2.size)), HZ.out.1.below HA4.out.2⟩
    clear hw5
    go_wp2_with fail
    obtain ⟨W5, hW5⟩ : ∃ V, w4.alloc (.cells #[.int .i64 0, .int .i64 0, .int .i64 0] 30) = V := ⟨_, rfl⟩
    rw [hW5] at H5 HA4
    rw [hW5]
    clear hW5 f0 f1 f2 g0 g1 g2 j0 j1 j2 j3 H4 H3 HA3 HA2
    have HST : Hid (∀ V, Below W5.heap.size W5 V → Below w.heap.size w V ∧ V.cell? ⟨w.heap.size, 0, none⟩ = some (.slice ca n cc) ∧ V.cell? ⟨w.heap.size, 3, none⟩ = some (.int .i64 rg)) := fun V hV => by
      obtain ⟨h1, h2, _, _, h3⟩ := HAT.out V (H5.out.1.trans (hV.mono H5.out.1.size))
      exact ⟨h1, h2, h3⟩
    clear HAT HA4 HA HC HK
    go_loopw [8] (fun x wr => ∃ t : Nat, t ≤ n ∧ x = .int .i64 t ∧ Hid (Below W5.heap.size W5 wr)) (fun x _ => n - (intOf x).toNat)
    case atStart => exact ⟨0, Nat.zero_le _, rfl, Below.refl _ _⟩
    case round =>
      obtain ⟨t, ht, rfl, HI⟩ := hrel
      have hn4 := HCO.out.n4
      by_cases htl : t < n
      · have hti : (t : Int) < (n : Int) := by omega
        obtain ⟨hww, p0, p3⟩ := HST.out _ HI.out
        obtain ⟨cb, co, rfl, hcc⟩ := (HP.out.below hww).code t htl
        obtain ⟨ub, xu, rfl, -, hcu, hou⟩ := H5.out.2.1.at (k := t) (by rw [HU.out.2.1]; exact htl)
        obtain ⟨vb, xv, rfl, -, hcv, hov⟩ := H5.out.2.2.at (k := t) (by rw [HZ.out.2.1]; exact htl)
        obtain ⟨S, hS, hSy⟩ := HU.out.2.2 t htl
        obtain ⟨F, hF, hFy⟩ := HZ.out.2.2 t htl
        rw [hSy] at hou
        rw [hFy] at hov
        obtain ⟨la, lc, rfl⟩ := hou.form
        obtain ⟨ka, kc, rfl⟩ := hov.form
        rw [tellS_len] at hcu hou hcv hov
        obtain ⟨Lt, hLt⟩ : ∃ q, L t = q := ⟨_, rfl⟩
        have hlt4 := HCO.out.L4 t htl
        have hrg2 := HCO.out.rg2
        have HSE1 := Hid.out (p := Hid _) (HSE.out wr.drew (hww.drew) t htl)
        have HCE1 : Hid (∀ V, Below w.heap.size w V → Calls Tryd.prog 12 #[.slice (A t) (L t) (C t), .int .i64 rg] V fun e w' => ∃ g G P, e = .returned (.slice (some ⟨g, 0, none⟩) rg rg) ∧ Grid V w' g rg rg rg G P ∧ (∀ a b, a < rg → b < rg → ((P a).getD b false = true ↔ Cl (X t) (L t) a b))) := fun V hV => HCE.out V hV t htl
        have HRG : Hid ((∀ r i, Lv (X t) (L t) r i → r < rg) ∧ ∀ a b, Cl (X t) (L t) a b → a < rg ∧ b < rg) := ⟨fun r i h => h.reg (fun i hi => HCO.out.ord t i htl hi), fun a b h => h.reg (fun i hi => HCO.out.ord t i htl hi)⟩
        rw [hLt] at hS hF hcu hou hlt4 HSE1 HCE1 HRG
        have HCC : Hid (∀ V, Below wr.heap.size wr V → V.cell? ⟨cb, co + t, none⟩ = some (.slice (A t) Lt (C t))) := fun V hV => by
          have h := (hV.cell (lt_of_cell hcc)).trans hcc
          rwa [hLt] at h
        have HOU := Hid.out (p := Hid _) (And.intro hcu hou)
        have HOV := Hid.out (p := Hid _) (And.intro hcv hov)
        have HSF := Hid.out (p := Hid _) (And.intro hS hF)
        have hcc1 := HCC.out wr.drew ((Below.refl _ _).drew)
        clear hww hS hF hSy hFy hcu hcv hou hov hcc hLt
        go_wp2_with fail
        refine region_tail 7 (by kernel_rfl) (by kernel_rfl) ?_
        simp only [List.take_succ_cons, List.take_zero, List.drop_succ_cons, List.drop_zero]
        repeat still_step
        refine wpStill_nil ?_
        go_wp2_with fail
        refine Calls.mono HSE1.out ?_
        rintro e w6 ⟨s1, G1, P1, rfl, hG1, hP1⟩
        have hb6 : Below wr.heap.size wr w6 := ((Below.refl wr.heap.size wr).drew).trans hG1.low
        have H6 : Hid (Below wr.heap.size wr w6 ∧ Grid wr.drew w6 s1 (Lt + 1) rg (Lt + 1) G1 P1 ∧ (∀ i q, i ≤ Lt → q < rg → ((P1 i).getD q false = true ↔ Lv (X t) Lt q i))) := ⟨hb6, hG1, hP1⟩
        obtain ⟨hw6, a0, a3⟩ := HST.out w6 (HI.out.trans (hb6.mono HI.out.size))
        have a4 := HCC.out w6 hb6
        clear p0 p3 hcc1 hG1 hP1 hb6 HSE1
        have a0d := cell_drw a0
        have a3d := cell_drw a3
        have a4d := cell_drw a4
        go_wp2_with fail
        refine region_tail 7 (by kernel_rfl) (by kernel_rfl) ?_
        simp only [List.take_succ_cons, List.take_zero, List.drop_succ_cons, List.drop_zero]
        repeat still_step
        refine wpStill_nil ?_
        go_wp2_with fail
        refine Calls.mono (HCE1.out _ hw6.drew) ?_
        rintro e w7 ⟨s2, G2, P2, rfl, hG2, hP2⟩
        have hb67 : Below w6.heap.size w6 w7 := ((Below.refl w6.heap.size w6).drew).trans hG2.low
        have H7 : Hid (Below W5.heap.size W5 w7 ∧ Grid wr.drew w7 s1 (Lt + 1) rg (Lt + 1) G1 P1 ∧ Grid w6.drew w7 s2 rg rg rg G2 P2) := ⟨(HI.out.trans ((H6.out.1.trans (hb67.mono H6.out.1.size)).mono HI.out.size)), H6.out.2.1.below hb67, hG2⟩
        have HL1 : Hid (∀ i, i ≤ Lt → lstP (has (S i)) 256 = lstP (fun q => (P1 i).getD q false) rg) := fun i hi => by
          rw [lstP_more (a := rg) (b := 256) (by omega) fun j h1 h2 => ?_]
          · refine lstP_same fun q hq => ?_
            rw [Bool.eq_iff_iff, HSF.out.1 i q, H6.out.2.2 i q hi hq]
          · cases hh : has (S i) j with
            | false => rfl
            | true =>
              have := HRG.out.1 j i ((HSF.out.1 i j).1 hh)
              omega
        have HL2 : Hid (∀ a, a < rg → lstP (has (F a)) 256 = lstP (fun q => (P2 a).getD q false) rg) := fun a ha => by
          rw [lstP_more (a := rg) (b := 256) (by omega) fun j h1 h2 => ?_]
          · refine lstP_same fun q hq => ?_
            rw [Bool.eq_iff_iff, HSF.out.2 a q, hP2 a q ha hq]
          · cases hh : has (F a) j with
            | false => rfl
            | true =>
              have := (HRG.out.2 a j ((HSF.out.2 a j).1 hh)).2
              omega
        obtain ⟨hw7, b0, b3⟩ := HST.out w7 H7.out.1
        have b1 := (H7.out.1.cell (lt_of_cell HOU.out.1)).trans HOU.out.1
        have b2 := (H7.out.1.cell (lt_of_cell HOV.out.1)).trans HOV.out.1
        clear a0 a3 a4 a0d a3d a4d hw6 hG2 hP2 hb67 H6 HCE1
        go_wp2_with fail
        go_quiet (fail)
        go_wp2_with fail
        go_loopw [11] (fun x wi => ∃ i : Nat, i ≤ Lt + 1 ∧ x = .int .i64 i ∧ Hid (Below w7.heap.size w7 wi)) (fun x _ => Lt + 1 - (intOf x).toNat)
        case atStart => exact ⟨0, Nat.zero_le _, rfl, by first | exact below_drewN (Below.refl _ _) | exact (Below.refl _ _).drew | exact Below.refl _ _⟩
        case round =>
          obtain ⟨i, hi, rfl, HJ⟩ := hrel
          by_cases hil : i < Lt + 1
          · have hii : (i : Int) < (Lt : Int) + 1 := by omega
            have HG := Hid.out (p := Hid _) (H7.out.2.1.below HJ.out)
            have q0 := HG.out.at hil
            have HLS : Hid (Calls Tryd.prog 13 #[.slice (some ⟨G1 i, 0, none⟩) rg rg] wr fun e w' => ∃ u, e = .returned u ∧ OwL w' wr.heap.size u (lstP (fun q => (P1 i).getD q false) rg) ∧ Below wr.heap.size wr w') := rlist_any wr (G1 i) (P1 i) (HG.out.row i hil) (by rw [HG.out.len i hil]; omega) rg (HG.out.len i hil)
            clear HI b0 b1 b2 b3
            go_wp2_with fail
            refine Calls.mono HLS.out ?_
            rintro e w8 ⟨u8, rfl, hu8, hb8⟩
            have h58 := H7.out.1.trans ((HJ.out.trans (hb8.mono HJ.out.size)).mono H7.out.1.size)
            obtain ⟨b, y, rfl, -, hcy, hoy⟩ := HOU.out.2.at (k := i) (by rw [tellS_len]; exact hil)
            rw [tellS_at hil, HL1.out i (by omega)] at hoy
            obtain ⟨yl, hyl⟩ : ∃ l, lstP (fun q => (P1 i).getD q false) rg = l := ⟨_, rfl⟩
            have hyn : yl.length ≤ 1000 := by have := lstP_len (fun q => (P1 i).getD q false) rg; rw [hyl] at this; omega
            rw [hyl] at hoy hu8
            obtain ⟨ya, yc, rfl⟩ := hoy.form
            obtain ⟨xa, xc, rfl⟩ := hu8.form
            have HIN : Hid (Calls Tryd.prog 14 #[.slice ya yl.length yc, .slice xa yl.length xc] w8 fun e w' => e = .returned (.bool true) ∧ Below w8.heap.size w8 w') := ints_lists w8 ya xa yl yc xc (hoy.below h58).sis hu8.sis hyn
            obtain ⟨yn, hyn2⟩ : ∃ k, yl.length = k := ⟨_, rfl⟩
            rw [hyn2] at HIN hcy
            have HB8 := Hid.out (p := Hid _) (HJ.out.trans (hb8.mono HJ.out.size))
            have d1 := (h58.cell (lt_of_cell HOU.out.1)).trans HOU.out.1
            have d2 := (h58.cell (lt_of_cell hcy)).trans hcy
            rw [hyn2]
            clear hyn hyl hyn2 hoy hu8 hb8 h58 hcy q0 HLS HG
            go_wp2_with fail
            refine Calls.mono HIN.out ?_
            rintro e w9 ⟨rfl, hb9⟩
            have HB9 := Hid.out (p := Hid _) (HB8.out.trans (hb9.mono HB8.out.size))
            clear hb9 d1 d2 HIN
            go_wp2_with fail
            go_roundw
            case rel => exact ⟨i + 1, by omega, by go_num, HB9.out⟩
            case measure => simp [intOf]; omega
          · have hii : ¬ (i : Int) < (Lt : Int) + 1 := by omega
            have HJ1 := Hid.out (p := Hid _) HJ.out
            obtain ⟨hw9, c0, c3⟩ := HST.out wr (H7.out.1.trans (HJ.out.mono H7.out.1.size))
            clear b0 b1 b2 b3 hw9
            go_wp2_with fail
            go_loopw [14] (fun x wi => ∃ r : Nat, r ≤ rg ∧ x = .int .i64 r ∧ Hid (Below w7.heap.size w7 wi)) (fun x _ => rg - (intOf x).toNat)
            case atStart => exact ⟨0, Nat.zero_le _, rfl, HJ1.out⟩
            case round =>
              obtain ⟨r, hr, rfl, HM⟩ := hrel
              clear HJ HJ1 c0 c3
              obtain ⟨hw9, c0, c3⟩ := HST.out wr (H7.out.1.trans (HM.out.mono H7.out.1.size))
              by_cases hrl : r < rg
              · have hri : (r : Int) < (rg : Int) := by omega
                have HG := Hid.out (p := Hid _) (H7.out.2.2.below HM.out)
                have q0 := HG.out.at hrl
                have HLS : Hid (Calls Tryd.prog 13 #[.slice (some ⟨G2 r, 0, none⟩) rg rg] wr fun e w' => ∃ u, e = .returned u ∧ OwL w' wr.heap.size u (lstP (fun q => (P2 r).getD q false) rg) ∧ Below wr.heap.size wr w') := rlist_any wr (G2 r) (P2 r) (HG.out.row r hrl) (by rw [HG.out.len r hrl]; omega) rg (HG.out.len r hrl)
                clear HI hw9
                go_wp2_with fail
                refine Calls.mono HLS.out ?_
                rintro e w8 ⟨u8, rfl, hu8, hb8⟩
                have h58 := H7.out.1.trans ((HM.out.trans (hb8.mono HM.out.size)).mono H7.out.1.size)
                obtain ⟨b, y, rfl, -, hcy, hoy⟩ := HOV.out.2.at (k := r) (by rw [tellS_len]; exact hrl)
                rw [tellS_at hrl, HL2.out r hrl] at hoy
                obtain ⟨yl, hyl⟩ : ∃ l, lstP (fun q => (P2 r).getD q false) rg = l := ⟨_, rfl⟩
                have hyn : yl.length ≤ 1000 := by have := lstP_len (fun q => (P2 r).getD q false) rg; rw [hyl] at this; omega
                rw [hyl] at hoy hu8
                obtain ⟨ya, yc, rfl⟩ := hoy.form
                obtain ⟨xa, xc, rfl⟩ := hu8.form
                have HIN : Hid (Calls Tryd.prog 14 #[.slice ya yl.length yc, .slice xa yl.length xc] w8 fun e w' => e = .returned (.bool true) ∧ Below w8.heap.size w8 w') := ints_lists w8 ya xa yl yc xc (hoy.below h58).sis hu8.sis hyn
                obtain ⟨yn, hyn2⟩ : ∃ k, yl.length = k := ⟨_, rfl⟩
                rw [hyn2] at HIN hcy
                have HB8 := Hid.out (p := Hid _) (HM.out.trans (hb8.mono HM.out.size))
                have d1 := (h58.cell (lt_of_cell HOV.out.1)).trans HOV.out.1
                have d2 := (h58.cell (lt_of_cell hcy)).trans hcy
                rw [hyn2]
                clear hyn hyl hyn2 hoy hu8 hb8 h58 hcy q0 HLS HG c0 c3
                go_wp2_with fail
                refine Calls.mono HIN.out ?_
                rintro e w9 ⟨rfl, hb9⟩
                have HB9 := Hid.out (p := Hid _) (HB8.out.trans (hb9.mono HB8.out.size))
                clear hb9 d1 d2 HIN
                go_wp2_with fail
                go_roundw
                case rel => exact ⟨r + 1, by omega, by go_num, HB9.out⟩
                case measure => simp [intOf]; omega
              · obtain rfl : r = rg := by omega
                have HE := Hid.out (p := Hid _) (H7.out.1.trans (HM.out.mono H7.out.1.size))
                clear hw9 HI
                go_wp2_with fail
                go_roundw
                case rel => exact ⟨t + 1, by omega, by go_num, HE.out⟩
                case measure => simp [intOf]; omega
      · obtain rfl : t = n := by omega
        obtain ⟨hww, p0, p3⟩ := HST.out _ HI.out
        have HWW := Hid.out (p := Hid _) hww
        clear hww
        go_wp2_with fail
        go_ret
        exact ⟨rfl, HWW.out⟩

end Go.Proofs.YtocfocjnnjdcgaaDoor
