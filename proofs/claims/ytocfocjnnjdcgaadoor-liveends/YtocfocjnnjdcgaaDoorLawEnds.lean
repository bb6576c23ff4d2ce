/-
  The law of what is live behind the last order and of registers that clash, for every program: the walk.
-/
import Derived.Test.YtocfocjnnjdcgaaDoorLawLive
import Derived.Test.YtocfocjnnjdcgaaDoorLivEn
import Derived.Test.YtocfocjnnjdcgaaDoorKVast
namespace Go.Proofs.YtocfocjnnjdcgaaDoor
open Go.RowKit Go.Shelf

/-- What the statement asks of a thread's lists. -/
def EndQ (ys : List (List Int)) : Prop := ∃ k, k ≤ 1000 ∧ ys.length = k + 1 ∧ ys.getD k [] = []
def NiceQ (zs : List (List Int)) : Prop := zs.length ≤ 1000 ∧ (∀ r, (zs.getD r []).length ≤ 1000) ∧ ∀ r, r < zs.length → ∀ x, x ∈ zs.getD r [] → ∃ s : Nat, x = (s : Int) ∧ s < zs.length ∧ s ≠ r ∧ (r : Int) ∈ zs.getD s []

theorem buf_ahead (w W : World) (d : Nat) (h : IsBuf d W w) (hT : TabZ w) :
    Calls Tryd.prog 8 #[prgV (some ⟨d + 3, 0, none⟩) 2 2 (some ⟨d + 4, 0, none⟩) 2 2 0 2] w fun e w' => ∃ u ysss, e = .returned (.tuple #[u, ints3 0 0 0]) ∧ O3 w' w.heap.size u ysss ∧ ysss.length = 2 ∧ (ysss.getD 0 []).length = 5 ∧ (ysss.getD 0 []).getD 0 [] = [] ∧ (ysss.getD 0 []).getD 1 [] = [0] ∧ Below w.heap.size w w' := by
  have hc := aheadP_yes w (some ⟨d + 3, 0, none⟩) 2 2 (some ⟨d + 4, 0, none⟩) 2 2 0 2 (bufA d) bufL (fun _ => 4) bufX h.prog buf_cok hT (fun V hV => check_any _ 2 2 _ 2 2 0 2 (bufA d) bufL (fun _ => 4) bufX 0 0 0 buf_chk V (h.prog.below hV))
  refine hc.mono ?_
  rintro e w' ⟨u, ysss, h1, h2, h3, h4, h5⟩
  obtain ⟨S, hS, hy⟩ := h4 0 (by omega)
  have hy5 : ysss.getD 0 [] = tellS S 5 := hy
  obtain ⟨g1, g2, g3⟩ := buf_tells hS
  exact ⟨u, ysss, h1, h2, h3, by rw [hy5, g1], by rw [hy5, g2], by rw [hy5, g3], h5⟩

theorem getD_mem {ys : List Int} {i : Nat} (h : i < ys.length) : ys.getD i 0 ∈ ys := by
  rw [List.getD_eq_getElem?_getD, List.getElem?_eq_getElem h]
  exact List.getElem_mem h
set_option maxRecDepth 100000 in
set_option maxHeartbeats 3200000 in
theorem ends_walk (w : World) (ca : Option Addr) (n cc : Nat) (wa : Option Addr) (m wc : Nat) (lk rg x y z : Int) (N : Nat) (hN : N ≤ 1000)
    (HB : Hid (∀ W, Below w.heap.size w W → Calls Tryd.prog 15 #[] W fun e w' => e = .returned (prgV (some ⟨W.heap.size + 3, 0, none⟩) 2 2 (some ⟨W.heap.size + 4, 0, none⟩) 2 2 0 2) ∧ IsBuf W.heap.size W w'))
    (HBA : Hid (∀ W V d, Below w.heap.size w V → IsBuf d W V → Calls Tryd.prog 8 #[prgV (some ⟨d + 3, 0, none⟩) 2 2 (some ⟨d + 4, 0, none⟩) 2 2 0 2] V fun e w' => ∃ u ysss, e = .returned (.tuple #[u, ints3 0 0 0]) ∧ O3 w' V.heap.size u ysss ∧ ysss.length = 2 ∧ (ysss.getD 0 []).length = 5 ∧ (ysss.getD 0 []).getD 0 [] = [] ∧ (ysss.getD 0 []).getD 1 [] = [0] ∧ Below V.heap.size V w'))
    (HV : Hid (∀ W, Below w.heap.size w W → Calls Tryd.prog 17 #[prgV ca n cc wa m wc lk rg] W fun e w' => ∃ b, e = .returned (.bool b) ∧ Below W.heap.size W w'))
    (HA : Hid (∀ W, Below w.heap.size w W → Calls Tryd.prog 8 #[prgV ca n cc wa m wc lk rg] W fun e w' => ∃ u ysss, e = .returned (.tuple #[u, ints3 x y z]) ∧ O3 w' W.heap.size u ysss ∧ ysss.length = N ∧ (∀ t, t < N → EndQ (ysss.getD t [])) ∧ Below W.heap.size W w'))
    (HC : Hid (∀ W, Below w.heap.size w W → Calls Tryd.prog 9 #[prgV ca n cc wa m wc lk rg] W fun e w' => ∃ u ysss, e = .returned (.tuple #[u, ints3 x y z]) ∧ O3 w' W.heap.size u ysss ∧ ysss.length = N ∧ (∀ t, t < N → NiceQ (ysss.getD t [])) ∧ Below W.heap.size W w')) :
    Calls Tryd.prog 4 #[prgV ca n cc wa m wc lk rg] w fun e w' => e = .returned (.bool true) ∧ Below w.heap.size w w' := by
  have HB0 := Hid.out (p := Hid _) (below_one w (.cells #[.slice ca n cc, .slice wa m wc, .int .i64 lk, .int .i64 rg] 25))
  have hp0 := heap_alloc_new w (.cells #[.slice ca n cc, .slice wa m wc, .int .i64 lk, .int .i64 rg] 25)
  obtain ⟨W0, hW0⟩ : ∃ V, w.alloc (.cells #[.slice ca n cc, .slice wa m wc, .int .i64 lk, .int .i64 rg] 25) = V := ⟨_, rfl⟩
  rw [hW0] at HB0 hp0
  have HAT : Hid (∀ V, Below W0.heap.size W0 V → Below w.heap.size w V ∧ V.cell? ⟨w.heap.size, 0, none⟩ = some (.slice ca n cc) ∧ V.cell? ⟨w.heap.size, 1, none⟩ = some (.slice wa m wc) ∧ V.cell? ⟨w.heap.size, 2, none⟩ = some (.int .i64 lk) ∧ V.cell? ⟨w.heap.size, 3, none⟩ = some (.int .i64 rg)) := fun V hb => by
    have e1 := (hb.block w.heap.size (Array.getElem?_eq_some_iff.1 hp0).1).trans hp0
    exact ⟨HB0.out.trans (hb.mono HB0.out.size), box_cell e1 rfl, box_cell e1 rfl, box_cell e1 rfl, box_cell e1 rfl⟩
  have HW0 := Hid.out (p := Hid _) hW0
  clear hp0 hW0
  go_enter Tryd.func4, Tryd.ntmps4
  go_wp2_with fail
  rw [HW0.out]
  refine Calls.mono (HB.out _ HB0.out) ?_
  rintro e w1 ⟨rfl, hB1⟩
  have HBA1 := HBA.out W0 w1 W0.heap.size (HAT.out w1 hB1.below).1 hB1
  have H1 := Hid.out (p := Hid _) hB1.below
  clear hB1 HB HBA HW0
  go_wp2_with fail
  refine Calls.mono HBA1 ?_
  rintro e w2 ⟨u, ysss, rfl, hO2, hl2, hq5, hq0, hq1, hb2⟩
  obtain ⟨ua, uc, hu⟩ := hO2.form
  rw [hl2] at hu
  subst hu
  obtain ⟨g, x0, rfl, -, hc0, ho0⟩ := hO2.at (k := 0) (by omega)
  obtain ⟨ga, gc, rfl⟩ := ho0.form
  obtain ⟨g5, y0, rfl, -, hd0, hp0⟩ := ho0.at (k := 0) (by omega)
  obtain ⟨_, y1, e5, -, hd1, hp1⟩ := ho0.at (k := 1) (by omega)
  simp only [Option.some.injEq, Addr.mk.injEq, and_true] at e5
  subst e5
  obtain ⟨z0, zc, rfl⟩ := hp0.form
  obtain ⟨z1, yc, rfl⟩ := hp1.form
  have HS1 := Hid.out (p := Hid _) hp1.sis
  rw [hq0] at hd0
  rw [hq1] at hd1 HS1
  rw [hq5] at hc0
  simp only [List.length_nil, List.length_cons, Nat.zero_add] at hd0 hd1
  have H2 := Hid.out (p := Hid _) (H1.out.trans (hb2.mono H1.out.size))
  have HSZ := Hid.out (p := Hid _) H2.out.size
  have f0 := cell_up hc0
  have f1 := cell_up hd0
  have f2 := cell_up hd1
  have hF2 := heap_alloc_new w2 (.cells #[.int .i64 0, .int .i64 0, .int .i64 0] 30)
  have HA2 : Hid (Below W0.heap.size W0 ((w2.alloc (.cells #[.int .i64 0, .int .i64 0, .int .i64 0] 30)).alloc (.cells #[.int .i64 0] 3)) ∧ ((w2.alloc (.cells #[.int .i64 0, .int .i64 0, .int .i64 0] 30)).alloc (.cells #[.int .i64 0] 3)).heap[w2.heap.size]? = some (.cells #[.int .i64 0, .int .i64 0, .int .i64 0] 30)) := ⟨(Below.alloc H2.out H2.out.size _).alloc (Nat.le_trans H2.out.size (by simp)) _, box_later hF2 _⟩
  have hI2 : ((w2.alloc (.cells #[.int .i64 0, .int .i64 0, .int .i64 0] 30)).alloc (.cells #[.int .i64 0] 3)).heap[w2.heap.size + 1]? = some (.cells #[.int .i64 0] 3) := by
    have := heap_alloc_new (w2.alloc (.cells #[.int .i64 0, .int .i64 0, .int .i64 0] 30)) (.cells #[.int .i64 0] 3)
    rwa [World.size_alloc] at this
  have HK1 : Hid (Calls Tryd.prog 16 #[.slice z1 1 yc, .slice (some ⟨w2.heap.size + 1, 0, none⟩) 1 1] ((w2.alloc (.cells #[.int .i64 0, .int .i64 0, .int .i64 0] 30)).alloc (.cells #[.int .i64 0] 3)) fun e w' => e = .returned (.bool true) ∧ Below ((w2.alloc (.cells #[.int .i64 0, .int .i64 0, .int .i64 0] 30)).alloc (.cells #[.int .i64 0] 3)).heap.size ((w2.alloc (.cells #[.int .i64 0, .int .i64 0, .int .i64 0] 30)).alloc (.cells #[.int .i64 0] 3)) w') := kintsS z1 (some ⟨w2.heap.size + 1, 0, none⟩) 1 yc 1 (by decide) (fun _ => 0) _ (fun i hi => by
    obtain rfl : i = 0 := by omega
    obtain ⟨b, o, h1, h2⟩ := HS1.out 0 (by simp)
    exact ⟨b, o, h1, cell_up (cell_up h2 _) _⟩) (fun i hi => by
    obtain rfl : i = 0 := by omega
    exact ⟨w2.heap.size + 1, 0, rfl, box_cell hI2 rfl⟩)
  clear hO2 hl2 hq5 hq0 hq1 hb2 ho0 hp0 hp1 HBA1 hF2 hI2
  go_wp2_with fail
  refine Calls.mono HK1.out ?_
  rintro e w3 ⟨rfl, hb3⟩
  have hF3 := Hid.out (p := Hid _) ((hb3.block _ (by simp; omega)).trans HA2.out.2)
  have H3 := Hid.out (p := Hid _) (HA2.out.1.trans (hb3.mono HA2.out.1.size))
  obtain ⟨hw3, p0, p1, p2, p3⟩ := HAT.out w3 H3.out
  clear hc0 hd0 hd1 f0 f1 f2 HK1 HA2 H2 HS1 hb3
  go_wp2_with fail
  refine Calls.mono (HV.out w3 hw3) ?_
  rintro e w4 ⟨b, rfl, hb4⟩
  have hF4 := Hid.out (p := Hid _) ((hb4.block _ (Array.getElem?_eq_some_iff.1 hF3.out).1).trans hF3.out)
  have H4 := Hid.out (p := Hid _) (H3.out.trans (hb4.mono H3.out.size))
  obtain ⟨hw4, q0, q1, q2, q3⟩ := HAT.out w4 H4.out
  have HW4 := Hid.out (p := Hid _) hw4
  clear HV hb4 hw3 hw4 p0 p1 p2 p3 hF3 H3
  cases b with
  | true =>
    go_wp2_with fail
    go_ret
    exact ⟨rfl, HW4.out⟩
  | false =>
    go_wp2_with fail
    refine Calls.mono (HA.out w4 HW4.out) ?_
    rintro e w5 ⟨u5, ysss5, rfl, hO5, hl5, hq5, hb5⟩
    obtain ⟨ua, ud, hu⟩ := hO5.form
    rw [hl5] at hu
    subst hu
    have hF5 := (hb5.block _ (Array.getElem?_eq_some_iff.1 hF4.out).1).trans hF4.out
    have H5 := Hid.out (p := Hid _) (And.intro hF5 (And.intro (H4.out.trans (hb5.mono H4.out.size)) (And.intro hO5 (And.intro hl5 hq5))))
    have c0 := box_cell (i := 0) hF5 rfl
    have c1 := box_cell (i := 1) hF5 rfl
    have c2 := box_cell (i := 2) hF5 rfl
    have f0 := box_free (i := 0) hF5
    have f1 := box_free (i := 1) hF5
    have f2 := box_free (i := 2) hF5
    have hgs : W0.heap.size ≤ w2.heap.size := HSZ.out
    have hs := (heap_set_same (i := 2) (u := .int .i64 z) (heap_set_same (i := 1) (u := .int .i64 y) (heap_set_same (i := 0) (u := .int .i64 x) H5.out.1)))
    have hb := ((H5.out.2.1.setCell (p := ⟨w2.heap.size, 0, none⟩) hgs (.int .i64 x)).setCell (p := ⟨w2.heap.size, 1, none⟩) hgs (.int .i64 y)).setCell (p := ⟨w2.heap.size, 2, none⟩) hgs (.int .i64 z)
    have ho : ∀ g, g ≠ w2.heap.size → (((w5.setCell ⟨w2.heap.size, 0, none⟩ (.int .i64 x)).setCell ⟨w2.heap.size, 1, none⟩ (.int .i64 y)).setCell ⟨w2.heap.size, 2, none⟩ (.int .i64 z)).heap[g]? = w5.heap[g]? := fun g hg => by
      have e : ∀ (Z : World) (q : Nat) (u : Value), (Z.setCell ⟨w2.heap.size, q, none⟩ u).heap[g]? = Z.heap[g]? := fun Z q u => Below.heap_setCell _ _ _ _ (fun x => hg (by simpa using x))
      rw [e, e, e]
    have hO := H5.out.2.2.1.far H5.out.1 (by decide) (by decide) (by decide) ho
    obtain ⟨_, r0, r1, r2, r3⟩ := HAT.out _ hb
    obtain ⟨V, hV⟩ : ∃ V, ((w5.setCell ⟨w2.heap.size, 0, none⟩ (.int .i64 x)).setCell ⟨w2.heap.size, 1, none⟩ (.int .i64 y)).setCell ⟨w2.heap.size, 2, none⟩ (.int .i64 z) = V := ⟨_, rfl⟩
    rw [hV] at hs hb hO
    have hwV := (HAT.out V hb).1
    have HV5 := Hid.out (p := Hid _) (And.intro hs (And.intro hb (And.intro hwV (And.intro hO hV))))
    have HQ5 := Hid.out (p := Hid _) (And.intro hl5 hq5)
    clear hF5 hb5 hO5 hl5 hq5 q0 q1 q2 q3 hs hb ho hO hV hwV hgs H5
    go_wp2_with fail
    rw [HV5.out.2.2.2.2]
    clear r0 r1 r2 r3 c0 c1 c2 f0 f1 f2
    refine Calls.mono (HC.out V HV5.out.2.2.1) ?_
    rintro e w6 ⟨u6, zsss, rfl, hO6, hl6, hq6, hb6⟩
    obtain ⟨va, vd, hu⟩ := hO6.form
    rw [hl6] at hu
    subst hu
    have hF6 := (hb6.block _ (Array.getElem?_eq_some_iff.1 HV5.out.1).1).trans HV5.out.1
    have H6 := Hid.out (p := Hid _) (And.intro (HV5.out.2.1.trans (hb6.mono HV5.out.2.1.size)) (And.intro (HV5.out.2.2.2.1.below hb6) (And.intro hO6 (And.intro hl6 hq6))))
    have c0 := box_cell (i := 0) hF6 rfl
    have c1 := box_cell (i := 1) hF6 rfl
    have c2 := box_cell (i := 2) hF6 rfl
    have d0 := cell_up c0
    have d1 := cell_up c1
    have d2 := cell_up c2
    have HG : Hid (∀ o : Obj, Below w6.heap.size w6 (w6.alloc o)) := fun o => (Below.refl _ _).alloc (Nat.le_refl _) _
    clear hO6 hl6 hq6 hb6 hF6
    go_wp2_with fail
    obtain ⟨W6, hW6⟩ : ∃ V, w6.alloc (.cells #[.int .i64 x, .int .i64 y, .int .i64 z] 30) = V := ⟨_, rfl⟩
    have hb6 := HG.out (.cells #[.int .i64 x, .int .i64 y, .int .i64 z] 30)
    rw [hW6] at hb6 ⊢
    have HY : Hid (O3 W6 w4.heap.size (.slice ua N ud) ysss5 ∧ ysss5.length = N ∧ ∀ t, t < N → EndQ (ysss5.getD t [])) := ⟨H6.out.2.1.below hb6, HQ5.out⟩
    have HZ : Hid (O3 W6 V.heap.size (.slice va N vd) zsss ∧ zsss.length = N ∧ ∀ t, t < N → NiceQ (zsss.getD t [])) := ⟨H6.out.2.2.1.below hb6, H6.out.2.2.2⟩
    have HW : Hid (∀ U, Below W6.heap.size W6 U → Below w.heap.size w U) := fun U hU => by
      have h1 := H6.out.1.trans (hb6.mono H6.out.1.size)
      exact (HAT.out U (h1.trans (hU.mono h1.size))).1
    clear hW6 hb6 HG H6 HQ5 HV5 d0 d1 d2 c0 c1 c2 HAT HA HC HW4 hF4 H4 HSZ H1
    go_loopw [7] (fun x wr => ∃ t : Nat, t ≤ N ∧ x = .int .i64 t ∧ Hid (Below W6.heap.size W6 wr)) (fun x _ => N - (intOf x).toNat)
    case atStart => exact ⟨0, Nat.zero_le _, rfl, Below.refl _ _⟩
    case round =>
      obtain ⟨t, ht, rfl, HI⟩ := hrel
      by_cases htl : t < N
      · have hti : (t : Int) < (N : Int) := by omega
        obtain ⟨g1, x1, rfl, -, hc1, ho1⟩ := HY.out.1.at (k := t) (by rw [HY.out.2.1]; exact htl)
        obtain ⟨k, hk1, hk2, hk3⟩ := HY.out.2.2 t htl
        obtain ⟨xa, xc, rfl⟩ := ho1.form
        obtain ⟨g2, x2, rfl, -, hc2, ho2⟩ := ho1.at (k := k) (by omega)
        obtain ⟨ya, yc, rfl⟩ := ho2.form
        rw [hk3] at hc2
        rw [hk2] at hc1
        simp only [List.length_nil] at hc2
        obtain ⟨q, hq⟩ : ∃ q, k + 1 = q := ⟨_, rfl⟩
        rw [hq] at hc1
        have hq0 : ((q : Int) == 0) = false := by simp; omega
        have hq1 : (q : Int) - 1 = (k : Int) := by omega
        have hqk : (k : Int) < (q : Int) := by omega
        have e1 := (HI.out.cell (lt_of_cell hc1)).trans hc1
        have e2 := (HI.out.cell (lt_of_cell hc2)).trans hc2
        clear hc1 hc2 ho1 ho2 hk2 hk3
        go_wp2_with fail
        go_quiet (simp only [hq0])
        go_wp2_with fail
        go_roundw
        case rel => exact ⟨t + 1, by omega, by go_num, below_drewN HI.out⟩
        case measure => simp [intOf]; omega
      · obtain rfl : N = t := by omega
        go_wp2_with fail
        go_loopw [8] (fun x wr => ∃ t : Nat, t ≤ N ∧ x = .int .i64 t ∧ Hid (Below W6.heap.size W6 wr)) (fun x _ => N - (intOf x).toNat)
        case atStart => exact ⟨0, Nat.zero_le _, rfl, HI.out⟩
        case round =>
          clear HI
          obtain ⟨t, ht, rfl, HI⟩ := hrel
          by_cases htl : t < N
          · have hti : (t : Int) < (N : Int) := by omega
            obtain ⟨g1, x1, rfl, -, hc1, ho1⟩ := HZ.out.1.at (k := t) (by rw [HZ.out.2.1]; exact htl)
            obtain ⟨hz1, hz2, hz3⟩ := HZ.out.2.2 t htl
            obtain ⟨xa, xc, rfl⟩ := ho1.form
            obtain ⟨zs, hzs⟩ : ∃ l, zsss.getD t [] = l := ⟨_, rfl⟩
            rw [hzs] at hc1 ho1 hz1 hz2 hz3
            obtain ⟨R, hR⟩ : ∃ q, zs.length = q := ⟨_, rfl⟩
            rw [hR] at hc1 hz1 hz3
            have HO := Hid.out (p := Hid _) (And.intro hc1 ho1)
            have HN := Hid.out (p := Hid _) (And.intro hz2 hz3)
            have e1 := (HI.out.cell (lt_of_cell hc1)).trans hc1
            clear hc1 ho1 hz2 hz3 hzs
            go_wp2_with fail
            clear e1
            go_loopw [9] (fun x wi => ∃ r : Nat, r ≤ R ∧ x = .int .i64 r ∧ Hid (Below W6.heap.size W6 wi)) (fun x _ => R - (intOf x).toNat)
            case atStart => exact ⟨0, Nat.zero_le _, rfl, by first | exact HI.out | exact HI.out.drew⟩
            case round =>
              clear HI
              obtain ⟨r, hr, rfl, HI⟩ := hrel
              have e1 := (HI.out.cell (lt_of_cell HO.out.1)).trans HO.out.1
              by_cases hrl : r < R
              · have hri : (r : Int) < (R : Int) := by omega
                obtain ⟨g2, x2, rfl, -, hc2, ho2⟩ := HO.out.2.at (k := r) (by rw [hR]; exact hrl)
                obtain ⟨ya, yc, rfl⟩ := ho2.form
                have hzl := HN.out.1 r
                have hzm := HN.out.2 r hrl
                obtain ⟨ys, hys⟩ : ∃ l, zs.getD r [] = l := ⟨_, rfl⟩
                rw [hys] at hc2 ho2 hzl hzm
                obtain ⟨Y, hY⟩ : ∃ q, ys.length = q := ⟨_, rfl⟩
                rw [hY] at hc2 hzl
                have HM := Hid.out (p := Hid _) (And.intro hc2 (And.intro ho2 (And.intro hzm hys)))
                have e2 := (HI.out.cell (lt_of_cell hc2)).trans hc2
                clear hc2 ho2 hys hzm
                go_wp2_with fail
                clear e1 e2
                go_loopw [10] (fun x wi => ∃ i : Nat, i ≤ Y ∧ x = .int .i64 i ∧ Hid (Below W6.heap.size W6 wi)) (fun x _ => Y - (intOf x).toNat)
                case atStart => exact ⟨0, Nat.zero_le _, rfl, by first | exact HI.out | exact HI.out.drew⟩
                case round =>
                  clear HI
                  obtain ⟨i, hi, rfl, HI⟩ := hrel
                  have e1 := (HI.out.cell (lt_of_cell HO.out.1)).trans HO.out.1
                  have e2 := (HI.out.cell (lt_of_cell HM.out.1)).trans HM.out.1
                  by_cases hil : i < Y
                  · have hii : (i : Int) < (Y : Int) := by omega
                    obtain ⟨b3, o3, rfl, hc3⟩ := HM.out.2.1.sis i (by rw [hY]; exact hil)
                    obtain ⟨s, hs1, hs2, hs3, hs4⟩ := HM.out.2.2.1 _ (getD_mem (ys := ys) (i := i) (by rw [hY]; exact hil))
                    rw [hs1] at hc3
                    have e3 := (HI.out.cell (lt_of_cell hc3)).trans hc3
                    obtain ⟨_, x4, e4, -, hc4, ho4⟩ := HO.out.2.at (k := s) (by rw [hR]; exact hs2)
                    simp only [Option.some.injEq, Addr.mk.injEq, and_true] at e4
                    subst e4
                    obtain ⟨ka, kc, rfl⟩ := ho4.form
                    have hkl := HN.out.1 s
                    obtain ⟨ks, hks⟩ : ∃ l, zs.getD s [] = l := ⟨_, rfl⟩
                    rw [hks] at hc4 ho4 hkl hs4
                    obtain ⟨K, hK⟩ : ∃ q, ks.length = q := ⟨_, rfl⟩
                    rw [hK] at hc4 hkl
                    have HS := Hid.out (p := Hid _) (And.intro hc4 (And.intro ho4 hs4))
                    have hsi0 : ¬ (s : Int) < 0 := by omega
                    have hsi1 : (s : Int) < (R : Int) := by omega
                    have hsi2 : ((s : Int) == (r : Int)) = false := by simp; omega
                    have e5 := (HI.out.cell (lt_of_cell hc4)).trans hc4
                    clear hc3 hs1 hs4 hc4 ho4 hks hs3
                    go_wp2_with fail
                    clear e1 e2 e3 e5 hsi0 hsi2
                    go_loopw [12, 13] (fun bk x wi => ∃ (b : Bool) (k : Nat), bk = .bool b ∧ k ≤ K ∧ x = .int .i64 k ∧ Hid (b = true ∨ (r : Int) ∈ ks.drop k) ∧ Hid (Below W6.heap.size W6 wi)) (fun _ x _ => K - (intOf x).toNat)
                    case atStart => exact ⟨false, 0, rfl, Nat.zero_le _, rfl, Or.inr (by simpa using HS.out.2.2), by first | exact HI.out | exact HI.out.drew | exact below_drewN HI.out⟩
                    case round =>
                      clear HI
                      obtain ⟨b, k, rfl, hk, rfl, HR, HI⟩ := hrel
                      have e1 := (HI.out.cell (lt_of_cell HO.out.1)).trans HO.out.1
                      have e5 := (HI.out.cell (lt_of_cell HS.out.1)).trans HS.out.1
                      by_cases hkK : k < K
                      · have hki : (k : Int) < (K : Int) := by omega
                        obtain ⟨b6, o6, rfl, hc6⟩ := HS.out.2.1.sis k (by rw [hK]; exact hkK)
                        have e6 := (HI.out.cell (lt_of_cell hc6)).trans hc6
                        have hdr : ks.drop k = ks.getD k 0 :: ks.drop (k + 1) := by
                          rw [List.drop_eq_getElem_cons (by rw [hK]; exact hkK), List.getD_eq_getElem?_getD, List.getElem?_eq_getElem (by rw [hK]; exact hkK)]
                          rfl
                        obtain ⟨v, hv⟩ : ∃ q, ks.getD k 0 = q := ⟨_, rfl⟩
                        rw [hv] at e6 hdr
                        have HD := Hid.out (p := Hid _) hdr
                        clear hc6 hdr hv
                        cases b with
                        | true =>
                          go_wp2_with fail
                          go_roundw
                          case rel => exact ⟨true, k + 1, rfl, by omega, by go_num, Or.inl rfl, by first | exact HI.out | exact HI.out.drew | exact below_drewN HI.out⟩
                          case measure => simp [intOf]; omega
                        | false =>
                          go_wp2_with fail
                          go_roundw
                          case rel =>
                            refine ⟨_, k + 1, rfl, by omega, by go_num, ?_, by first | exact HI.out | exact HI.out.drew | exact below_drewN HI.out⟩
                            have h := HR.out.resolve_left (by decide)
                            rw [HD.out] at h
                            rcases List.mem_cons.1 h with h | h
                            · exact Or.inl (by simp [h])
                            · exact Or.inr h
                          case measure => simp [intOf]; omega
                      · obtain rfl : K = k := by omega
                        obtain rfl : b = true := HR.out.resolve_right (by rw [List.drop_of_length_le (by omega)]; simp)
                        go_wp2_with fail
                        go_roundw
                        case rel => exact ⟨i + 1, by omega, by go_num, by first | exact HI.out | exact HI.out.drew | exact below_drewN HI.out⟩
                        case measure => simp [intOf]; omega
                  · obtain rfl : Y = i := by omega
                    go_wp2_with fail
                    go_roundw
                    case rel => exact ⟨r + 1, by omega, by go_num, by first | exact HI.out | exact HI.out.drew⟩
                    case measure => simp [intOf]; omega
              · obtain rfl : R = r := by omega
                go_wp2_with fail
                go_roundw
                case rel => exact ⟨t + 1, by omega, by go_num, by first | exact HI.out | exact HI.out.drew⟩
                case measure => simp [intOf]; omega
          · obtain rfl : N = t := by omega
            have hww := Hid.out (p := Hid _) (HW.out wr HI.out)
            go_wp2_with fail
            go_ret
            exact ⟨rfl, hww.out⟩

end Go.Proofs.YtocfocjnnjdcgaaDoor
