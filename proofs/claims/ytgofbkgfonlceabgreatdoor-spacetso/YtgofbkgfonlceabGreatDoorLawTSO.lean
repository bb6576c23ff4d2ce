/-
  The law of all outcomes with waiting stores.
-/
import Derived.Test.YtgofbkgfonlceabGreatDoorOcRob
import Derived.Test.YtgofbkgfonlceabGreatDoorWorkP
import Derived.Test.YtgofbkgfonlceabGreatDoorOrder
import Derived.Test.YtgofbkgfonlceabGreatDoorRDoW
import Derived.Test.YtgofbkgfonlceabGreatDoorDSt
import Derived.Deep.RegionHeld3
namespace Go.Proofs.YtgofbkgfonlceabGreatDoor
open Go.RowKit Go.Sort Go.Shelf

/-- A box behind a world, later on. -/
theorem box_keep {w V : World} {o : Obj} (hb : Below (w.alloc o).heap.size (w.alloc o) V) : V.heap[w.heap.size]? = some o ∧ w.heap.size < V.heap.size :=
  ⟨(hb.block _ (by simp)).trans (heap_alloc_new _ _), by have := hb.size; simp at this; omega⟩
set_option maxRecDepth 100000 in
set_option maxHeartbeats 6400000 in
theorem spaceTSO_no (w : World) (ca : Option Addr) (n cc : Nat) (wa : Option Addr) (m wc : Nat) (lk rg : Int) (A : Nat → Option Addr) (L C : Nat → Nat) (X : Nat → Nat → Nat → Int) (x y z : Int) (HR : Hid (chk n L X m lk rg = (x, y, z))) (hx : (x != 0) = true) (hm : m ≤ 9223372036854775807) (hp : PIn w ca n A L C X) :
    Calls Tryz.prog 4 #[prgV ca n cc wa m wc lk rg] w fun e w' => e = .returned (.bool true) ∧ Below w.heap.size w w' := by
  have HV : Hid (∀ W, Below w.heap.size w W → Calls Tryz.prog 7 #[prgV ca n cc wa m wc lk rg] W fun e w' => ∃ b, e = .returned (.bool b) ∧ Below W.heap.size W w') := fun W hb => (vast_any ca n cc wa m wc lk rg A L C X hm W (hp.below hb)).mono fun e w' ⟨⟨b, h1⟩, h2⟩ => ⟨b, h1, h2⟩
  have HTS : Hid (∀ W, Below w.heap.size w W → Calls Tryz.prog 13 #[prgV ca n cc wa m wc lk rg] W fun e w' => e = .returned (.tuple #[nilV, ints3 x y z]) ∧ Below W.heap.size W w') := fun W hb => tso_no W ca n cc wa m wc lk rg A L C X x y z HR hx (hp.below hb)
  have HRB : Hid (∀ W, Below w.heap.size w W → Calls Tryz.prog 14 #[prgV ca n cc wa m wc lk rg] W fun e w' => e = .returned (.tuple #[.bool false, ints3 x y z]) ∧ Below W.heap.size W w') := fun W hb => robust_no W ca n cc wa m wc lk rg A L C X x y z HR hx (hp.below hb)
  have HRC : Hid (∀ W, Below w.heap.size w W → Calls Tryz.prog 9 #[prgV ca n cc wa m wc lk rg] W fun e w' => e = .returned (ints3 x y z) ∧ Below W.heap.size W w') := fun W hb => rcheck_any ca n cc wa m wc lk rg A L C X x y z HR W (hp.below hb)
  obtain ⟨PB, hPB⟩ : ∃ o : Obj, o = .cells #[.slice ca n cc, .slice wa m wc, .int .i64 lk, .int .i64 rg] 25 := ⟨_, rfl⟩
  have hb0 : Below w.heap.size w (w.alloc PB) := (Below.refl _ _).alloc (Nat.le_refl _) _
  have hp0 : (w.alloc PB).heap[w.heap.size]? = some PB := heap_alloc_new _ _
  have HAT : Hid (∀ V, Below (w.alloc PB).heap.size (w.alloc PB) V → Below w.heap.size w V ∧ V.cell? ⟨w.heap.size, 0, none⟩ = some (.slice ca n cc) ∧ V.cell? ⟨w.heap.size, 1, none⟩ = some (.slice wa m wc) ∧ V.cell? ⟨w.heap.size, 2, none⟩ = some (.int .i64 lk) ∧ V.cell? ⟨w.heap.size, 3, none⟩ = some (.int .i64 rg)) := fun V hb => by
    have e1 := (hb.block w.heap.size (by simp)).trans hp0
    rw [hPB] at e1
    exact ⟨hb0.trans (hb.mono hb0.size), box_cell e1 rfl, box_cell e1 rfl, box_cell e1 rfl, box_cell e1 rfl⟩
  obtain ⟨W0, hW0⟩ : ∃ V, w.alloc PB = V := ⟨_, rfl⟩
  have HW0 : Hid (w.alloc (.cells #[.slice ca n cc, .slice wa m wc, .int .i64 lk, .int .i64 rg] 25) = W0) := by rw [← hW0, hPB]; exact rfl
  have HB0 : Hid (Below w.heap.size w W0) := by rw [← hW0]; exact hb0
  rw [hW0] at HAT
  obtain ⟨FB, hFB⟩ : ∃ o : Obj, o = .cells #[.int .i64 x, .int .i64 y, .int .i64 z] 30 := ⟨_, rfl⟩
  have HFB : Hid (Obj.cells #[.int .i64 x, .int .i64 y, .int .i64 z] 30 = FB) := hFB.symm
  have HFC : Hid (∀ (V : World) (b : Nat), V.heap[b]? = some FB → V.cell? ⟨b, 0, none⟩ = some (.int .i64 x) ∧ V.cell? ⟨b, 1, none⟩ = some (.int .i64 y) ∧ V.cell? ⟨b, 2, none⟩ = some (.int .i64 z)) := fun V b h => by
    rw [hFB] at h
    exact ⟨box_cell h rfl, box_cell h rfl, box_cell h rfl⟩
  clear HR hp hm hPB hb0 hp0 hW0 hFB
  go_enter Tryz.func4, Tryz.ntmps4
  go_wp2_with fail
  rw [HW0.out]
  refine Calls.mono (HV.out _ HB0.out) ?_
  rintro e w1 ⟨b, rfl, hb1⟩
  obtain ⟨hw1, p0, p1, p2, p3⟩ := HAT.out w1 hb1
  have H1 := Hid.out (p := Hid _) (And.intro hb1 hw1)
  clear HV HW0 hb1 hw1
  cases b with
  | true =>
    go_wp2_with fail
    go_ret
    exact ⟨rfl, H1.out.2⟩
  | false =>
    go_wp2_with fail
    refine Calls.mono (HTS.out _ H1.out.2) ?_
    rintro e w2 ⟨rfl, hb2⟩
    clear p0 p1 p2 p3
    have hb02 : Below W0.heap.size W0 w2 := H1.out.1.trans (hb2.mono H1.out.1.size)
    obtain ⟨hw2, p0, p1, p2, p3⟩ := HAT.out _ hb02
    have H2 : Hid (Below W0.heap.size W0 (w2.alloc FB) ∧ Below w.heap.size w (w2.alloc FB)) := ⟨hb02.alloc hb02.size _, hw2.alloc hw2.size _⟩
    have q0 := cell_up p0
    have q1 := cell_up p1
    have q2 := cell_up p2
    have q3 := cell_up p3
    clear HTS hb2 hw2 hb02 p0 p1 p2 p3
    go_wp2_with fail
    rw [HFB.out]
    refine Calls.mono (HRB.out _ H2.out.2) ?_
    rintro e w3 ⟨rfl, hb3⟩
    clear q0 q1 q2 q3
    obtain ⟨hf3, hz3⟩ := box_keep hb3
    have hb03 : Below W0.heap.size W0 w3 := H2.out.1.trans (hb3.mono H2.out.1.size)
    obtain ⟨hw3, p0, p1, p2, p3⟩ := HAT.out _ hb03
    have H3 : Hid (Below W0.heap.size W0 (w3.alloc FB) ∧ Below w.heap.size w (w3.alloc FB) ∧ (w3.alloc FB).heap[w2.heap.size]? = some FB) := ⟨hb03.alloc hb03.size _, hw3.alloc hw3.size _, box_later hf3 _⟩
    have q0 := cell_up p0
    have q1 := cell_up p1
    have q2 := cell_up p2
    have q3 := cell_up p3
    clear HRB hb3 hb03 hw3 hf3 p0 p1 p2 p3
    go_wp2_with fail
    rw [HFB.out]
    refine Calls.mono (HRC.out _ H3.out.2.1) ?_
    rintro e w4 ⟨rfl, hb4⟩
    clear q0 q1 q2 q3
    obtain ⟨hf4, hz4⟩ := box_keep hb4
    have hg4 : w4.heap[w2.heap.size]? = some FB := (hb4.block _ (by simp; omega)).trans H3.out.2.2
    have hw4 : Below w.heap.size w (w4.alloc FB) := (H3.out.2.1.trans (hb4.mono H3.out.2.1.size)).alloc (H3.out.2.1.trans (hb4.mono H3.out.2.1.size)).size _
    have HB4 := Hid.out (p := Hid _) hw4
    have f0 := fun o => (HFC.out _ _ (box_later hg4 o)).1
    have f1 := fun o => (HFC.out _ _ (box_later hg4 o)).2.1
    have f2 := fun o => (HFC.out _ _ (box_later hg4 o)).2.2
    have g0 := fun o => (HFC.out _ _ (box_later hf4 o)).1
    have g1 := fun o => (HFC.out _ _ (box_later hf4 o)).2.1
    have g2 := fun o => (HFC.out _ _ (box_later hf4 o)).2.2
    clear HRC hb4 hf4 hg4 hw4
    rw [← HFB.out] at HB4
    go_wp2
    go_ret
    exact ⟨rfl, HB4.out⟩

/-- What Robust tells, once it is known what there is in both modes. -/
theorem rob_known {L : Nat → Nat} {X : Nat → Nat → Nat → Int} {s0 : Sx} {r : Bool} {z : Int} {ft fs : Bool} {lt ls : List Oc} (h : RobQ L X s0 r z) (ht : Told (nxX L X 0) (outsX L X 0) s0 4000 ft lt) (hs : Told (nxX L X 1) (outsX L X 1) s0 4000 fs ls) : ((ft = true ∨ fs = true) → r = false ∧ z = 10) ∧ (ft = false → fs = false → r = decide (ls = lt) ∧ z = 0) := by
  rcases h with ⟨l1, h1, h2, h3⟩ | ⟨l1, f2, l2, h1, h2, h3⟩
  · have := (told_same h1 ht).1
    exact ⟨fun _ => ⟨h2, h3⟩, fun e => by rw [e] at this; cases this⟩
  · obtain ⟨e1, e2⟩ := told_same h1 ht
    obtain ⟨e3, e4⟩ := told_same h2 hs
    subst e1 e3
    rcases h3 with ⟨g1, g2, g3⟩ | ⟨g1, g2, g3⟩
    · exact ⟨fun _ => ⟨g2, g3⟩, fun _ e => by rw [e] at g1; cases g1⟩
    · refine ⟨fun h => (by
        rcases h with h | h
        · cases h
        · rw [h] at g1; cases g1), fun _ e => ⟨?_, g3⟩⟩
      rw [g2, e2 rfl, e4 g1]
      exact decide_eq_decide.2 ⟨fun h => h.symm, fun h => h.symm⟩
set_option maxRecDepth 100000 in
set_option maxHeartbeats 25600000 in
theorem spaceTSO_yes (w : World) (ca : Option Addr) (n cc : Nat) (wa : Option Addr) (wc lk rg : Nat) (words : List Int) (A : Nat → Option Addr) (L C : Nat → Nat) (X : Nat → Nat → Nat → Int) (HR : Hid (chk n L X words.length lk rg = (0, 0, 0))) (hp : PIn w ca n A L C X) (hc : COk n L X words.length lk rg) (hn0 : 0 < n) (hw : SIs w wa words) (hnil : wa = none → words = [] ∧ wc = 0) (hfit : ∀ t i, t < n → i < L t → I64n (X t i 2)) (hwf : ∀ x, x ∈ words → I64n x) (htab : TabB w.heap.size w) :
    Calls Tryz.prog 4 #[prgV ca n cc wa words.length wc lk rg] w fun e w' => e = .returned (.bool true) ∧ Below w.heap.size w w' := by
  have hm : words.length ≤ 9223372036854775807 := by have := hc.m64; omega
  have HV : Hid (∀ W, Below w.heap.size w W → Calls Tryz.prog 7 #[prgV ca n cc wa words.length wc lk rg] W fun e w' => ∃ b, e = .returned (.bool b) ∧ Below W.heap.size W w') := fun W hb => (vast_any ca n cc wa words.length wc lk rg A L C X hm W (hp.below hb)).mono fun e w' ⟨⟨b, h1⟩, h2⟩ => ⟨b, h1, h2⟩
  have HTS : Hid (∀ W, Below w.heap.size w W → Calls Tryz.prog 13 #[prgV ca n cc wa words.length wc lk rg] W fun e w' => ∃ (full : Bool) (z : Int) (a : Option Addr) (cap : Nat) (l : List Oc), e = .returned (.tuple #[.slice a l.length cap, ints3 z 0 0]) ∧ Hid (Told (nxX L X 1) (outsX L X 1) (beginX n words lk rg) 4000 full l ∧ OsIn w' a l ∧ OBd l ∧ (full = true → l.length = 0) ∧ Below W.heap.size W w' ∧ z = if full then 10 else 0)) := fun W hb => by
    refine Calls.mono (tso_yes W ca n cc wa wc lk rg words A L C X HR (hp.below hb) hc hn0 (hw.below hb) hnil hfit hwf (htab.up hb)) ?_
    intro e w' h
    obtain ⟨full, a, len, cap, es, h1, h2, h3, h4, h5, h6, h7, h8⟩ := h.spc (Below.refl _ _)
    refine ⟨full, _, a, cap, es.map En.o, ?_, h2, ens_osin h4 h5, ens_obd (by omega) h5, fun hf => by rw [List.length_map, h3]; exact h6 hf, h8, rfl⟩
    rw [List.length_map, h3]; exact h1
  have HRB : Hid (∀ W, Below w.heap.size w W → Calls Tryz.prog 14 #[prgV ca n cc wa words.length wc lk rg] W fun e w' => ∃ r z, e = .returned (.tuple #[.bool r, ints3 z 0 0]) ∧ RobQ L X (beginX n words lk rg) r z ∧ Below W.heap.size W w') := fun W hb => robust_yes W ca n cc wa wc lk rg words A L C X HR (hp.below hb) hc hn0 (hw.below hb) hnil hfit hwf (htab.up hb)
  have HRC : Hid (∀ W, Below w.heap.size w W → Calls Tryz.prog 9 #[prgV ca n cc wa words.length wc lk rg] W fun e w' => e = .returned (ints3 0 0 0) ∧ Below W.heap.size W w') := fun W hb => rcheck_any ca n cc wa words.length wc lk rg A L C X 0 0 0 HR W (hp.below hb)
  have HM1 : Hid (∀ W, Below w.heap.size w W → Calls Tryz.prog 10 #[prgV ca n cc wa words.length wc lk rg, .bool true] W (MakeQ W L X 1 (beginX n words lk rg))) := fun W hb => make_any W true ca n cc wa wc lk rg words A L C X (hw.below hb) hn0 hc (hp.below hb)
  have HM0 : Hid (∀ W, Below w.heap.size w W → Calls Tryz.prog 10 #[prgV ca n cc wa words.length wc lk rg, .bool false] W (MakeQ W L X 0 (beginX n words lk rg))) := fun W hb => make_any W false ca n cc wa wc lk rg words A L C X (hw.below hb) hn0 hc (hp.below hb)
  obtain ⟨s0, hs0⟩ : ∃ s0, beginX n words lk rg = s0 := ⟨_, rfl⟩
  rw [hs0] at HTS HRB HM1 HM0
  obtain ⟨m, hmm⟩ : ∃ k, words.length = k := ⟨_, rfl⟩
  rw [hmm] at HV HTS HRB HRC HM1 HM0 ⊢
  clear HR hp hc hn0 hw hnil hfit hwf htab hs0 hmm hm
  obtain ⟨PB, hPB⟩ : ∃ o : Obj, o = .cells #[.slice ca n cc, .slice wa m wc, .int .i64 (lk : Int), .int .i64 (rg : Int)] 25 := ⟨_, rfl⟩
  have hb0 : Below w.heap.size w (w.alloc PB) := (Below.refl _ _).alloc (Nat.le_refl _) _
  have hp0 : (w.alloc PB).heap[w.heap.size]? = some PB := heap_alloc_new _ _
  have HAT : Hid (∀ V, Below (w.alloc PB).heap.size (w.alloc PB) V → Below w.heap.size w V ∧ V.cell? ⟨w.heap.size, 0, none⟩ = some (.slice ca n cc) ∧ V.cell? ⟨w.heap.size, 1, none⟩ = some (.slice wa m wc) ∧ V.cell? ⟨w.heap.size, 2, none⟩ = some (.int .i64 (lk : Int)) ∧ V.cell? ⟨w.heap.size, 3, none⟩ = some (.int .i64 (rg : Int))) := fun V hb => by
    have e1 := (hb.block w.heap.size (by simp)).trans hp0
    rw [hPB] at e1
    exact ⟨hb0.trans (hb.mono hb0.size), box_cell e1 rfl, box_cell e1 rfl, box_cell e1 rfl, box_cell e1 rfl⟩
  obtain ⟨W0, hW0⟩ : ∃ V, w.alloc PB = V := ⟨_, rfl⟩
  have HW0 : Hid (w.alloc (.cells #[.slice ca n cc, .slice wa m wc, .int .i64 (lk : Int), .int .i64 (rg : Int)] 25) = W0) := by rw [← hW0, hPB]; exact rfl
  have HB0 : Hid (Below w.heap.size w W0) := by rw [← hW0]; exact hb0
  rw [hW0] at HAT
  clear hPB hb0 hp0 hW0
  go_enter Tryz.func4, Tryz.ntmps4
  go_wp2_with fail
  rw [HW0.out]
  refine Calls.mono (HV.out _ HB0.out) ?_
  rintro e w1 ⟨b, rfl, hb1⟩
  obtain ⟨hw1, p0, p1, p2, p3⟩ := HAT.out w1 hb1
  have H1 := Hid.out (p := Hid _) (And.intro hb1 hw1)
  clear HV HW0 hb1 hw1
  cases b with
  | true =>
    go_wp2_with fail
    go_ret
    exact ⟨rfl, H1.out.2⟩
  | false =>
    go_wp2_with fail
    refine Calls.mono (HTS.out _ H1.out.2) ?_
    rintro e w2 ⟨full, z, a, cap, l, rfl, HS⟩
    clear p0 p1 p2 p3
    have hb02 : Below W0.heap.size W0 w2 := H1.out.1.trans (HS.out.2.2.2.2.1.mono H1.out.1.size)
    obtain ⟨hw2, p0, p1, p2, p3⟩ := HAT.out _ hb02
    have q0 := cell_up p0
    have q1 := cell_up p1
    have q2 := cell_up p2
    have q3 := cell_up p3
    obtain ⟨ln, hln⟩ : ∃ k, l.length = k := ⟨_, rfl⟩
    have HLN : Hid (l.length = ln) := hln
    rw [hln]
    have H2 : Hid (∀ o, Below W0.heap.size W0 (w2.alloc o) ∧ Below w.heap.size w (w2.alloc o)) := fun o => ⟨hb02.alloc hb02.size _, hw2.alloc hw2.size _⟩
    clear HTS hw2 hln hb02 p0 p1 p2 p3
    go_wp2_with fail
    refine Calls.mono (HRB.out _ (H2.out _).2) ?_
    rintro e w3 ⟨r, zg, rfl, hrob, hb3⟩
    clear q0 q1 q2 q3
    obtain ⟨hf3, hz3⟩ := box_keep hb3
    have hb03 : Below W0.heap.size W0 w3 := (H2.out _).1.trans (hb3.mono (H2.out (.cells #[.int .i64 z, .int .i64 0, .int .i64 0] 30)).1.size)
    obtain ⟨hw3, p0, p1, p2, p3⟩ := HAT.out _ hb03
    have q0 := cell_up p0
    have q1 := cell_up p1
    have q2 := cell_up p2
    have q3 := cell_up p3
    have hb23 : Below w2.heap.size w2 w3 := ((Below.refl _ _).alloc (Nat.le_refl _) _).trans (hb3.mono (by simp))
    have H3 : Hid ((∀ o, Below W0.heap.size W0 (w3.alloc o) ∧ Below w.heap.size w (w3.alloc o)) ∧ w3.heap[w2.heap.size]? = some (.cells #[.int .i64 z, .int .i64 0, .int .i64 0] 30) ∧ RobQ L X s0 r zg ∧ Below w2.heap.size w2 w3) := ⟨fun o => ⟨hb03.alloc hb03.size _, hw3.alloc hw3.size _⟩, hf3, hrob, hb23⟩
    clear HRB hb3 hb03 hw3 hf3 hrob p0 p1 p2 p3 H2 hb23
    go_wp2_with fail
    refine Calls.mono (HRC.out _ (H3.out.1 _).2) ?_
    rintro e w4 ⟨rfl, hb4⟩
    clear q0 q1 q2 q3
    obtain ⟨hg4, hz4⟩ := box_keep hb4
    have hf4 : w4.heap[w2.heap.size]? = some (.cells #[.int .i64 z, .int .i64 0, .int .i64 0] 30) := (hb4.block _ (by simp; omega)).trans (box_later H3.out.2.1 _)
    have hb04 : Below W0.heap.size W0 w4 := (H3.out.1 _).1.trans (hb4.mono (H3.out.1 (.cells #[.int .i64 zg, .int .i64 0, .int .i64 0] 30)).1.size)
    obtain ⟨hw4, p0, p1, p2, p3⟩ := HAT.out _ hb04
    have q0 := cell_up p0
    have q1 := cell_up p1
    have q2 := cell_up p2
    have q3 := cell_up p3
    have hb34 : Below w3.heap.size w3 w4 := ((Below.refl _ _).alloc (Nat.le_refl _) _).trans (hb4.mono (by simp))
    have H4 : Hid ((∀ o, Below W0.heap.size W0 (w4.alloc o) ∧ Below w.heap.size w (w4.alloc o)) ∧ w4.heap[w2.heap.size]? = some (.cells #[.int .i64 z, .int .i64 0, .int .i64 0] 30) ∧ w4.heap[w3.heap.size]? = some (.cells #[.int .i64 zg, .int .i64 0, .int .i64 0] 30) ∧ Below w2.heap.size w2 w4) := ⟨fun o => ⟨hb04.alloc hb04.size _, hw4.alloc hw4.size _⟩, hf4, hg4, H3.out.2.2.2.trans (hb34.mono H3.out.2.2.2.size)⟩
    clear HRC hb4 hb04 hw4 hf4 hg4 p0 p1 p2 p3 hb34
    go_wp2_with fail
    refine Calls.mono (HM1.out _ (H4.out.1 _).2) ?_
    rintro e w5 ⟨ps, fs, sa, sc, ls, rfl, hts, s4, s5, hos, hds, hb5⟩
    clear q0 q1 q2 q3
    obtain ⟨_, hz5⟩ := box_keep hb5
    have hb05 : Below W0.heap.size W0 w5 := (H4.out.1 _).1.trans (hb5.mono (H4.out.1 (.cells #[.int .i64 0, .int .i64 0, .int .i64 0] 30)).1.size)
    obtain ⟨hw5, p0, p1, p2, p3⟩ := HAT.out _ hb05
    have hb45 : Below w4.heap.size w4 w5 := ((Below.refl _ _).alloc (Nat.le_refl _) _).trans (hb5.mono (by simp))
    have H5 : Hid (Below W0.heap.size W0 w5 ∧ Below w.heap.size w w5 ∧ Below w4.heap.size w4 w5 ∧ Told (nxX L X 1) (outsX L X 1) s0 4000 fs ls ∧ OsIn w5 sa ls ∧ OBd ls ∧ w5.cell? ⟨ps, 4, none⟩ = some (.slice sa ls.length sc) ∧ w5.cell? ⟨ps, 5, none⟩ = some (.bool fs)) := ⟨hb05, hw5, hb45, hts, hos, hds, s4, s5⟩
    clear HM1 hb5 hb05 hw5 hb45 hts hos hds s4 s5
    go_wp2_with fail
    refine Calls.mono (HM0.out _ H5.out.2.1) ?_
    rintro e w6 ⟨pt, ft, ta, tc, lt, rfl, htt, t4, t5, hot, hdt, hb6⟩
    clear p0 p1 p2 p3
    have hb46 : Below w4.heap.size w4 w6 := H5.out.2.2.1.trans (hb6.mono H5.out.2.2.1.size)
    have hf6 : w6.heap[w2.heap.size]? = some (.cells #[.int .i64 z, .int .i64 0, .int .i64 0] 30) := (hb46.block _ (box_lt H4.out.2.1)).trans H4.out.2.1
    have hg6 : w6.heap[w3.heap.size]? = some (.cells #[.int .i64 zg, .int .i64 0, .int .i64 0] 30) := (hb46.block _ (box_lt H4.out.2.2.1)).trans H4.out.2.2.1
    have s4 := (hb6.cell (lt_of_cell H5.out.2.2.2.2.2.2.1)).trans H5.out.2.2.2.2.2.2.1
    have s5 := (hb6.cell (lt_of_cell H5.out.2.2.2.2.2.2.2)).trans H5.out.2.2.2.2.2.2.2
    have hw6 : Below w.heap.size w w6 := H5.out.2.1.trans (hb6.mono H5.out.2.1.size)
    obtain ⟨hff, hll⟩ := told_same HS.out.1 H5.out.2.2.2.1
    subst hff
    obtain ⟨hr1, hr2⟩ := rob_known H3.out.2.2.1 htt H5.out.2.2.2.1
    have hol : OsIn w6 a l := HS.out.2.1.below (H4.out.2.2.2.trans (hb46.mono H4.out.2.2.2.size))
    have hos : OsIn w6 sa ls := H5.out.2.2.2.2.1.below hb6
    have H6 : Hid (Below w.heap.size w w6 ∧ w6.heap[w2.heap.size]? = some (.cells #[.int .i64 z, .int .i64 0, .int .i64 0] 30) ∧ w6.heap[w3.heap.size]? = some (.cells #[.int .i64 zg, .int .i64 0, .int .i64 0] 30) ∧ OsIn w6 a l ∧ OsIn w6 sa ls ∧ OsIn w6 ta lt ∧ OBd l ∧ OBd ls ∧ OBd lt) := ⟨hw6, hf6, hg6, hol, hos, hot, HS.out.2.2.1, H5.out.2.2.2.2.2.1, hdt⟩
    have f0 : w6.cell? ⟨w2.heap.size, 0, none⟩ = some (.int .i64 z) := box_cell hf6 rfl
    have f1 : w6.cell? ⟨w2.heap.size, 1, none⟩ = some (.int .i64 0) := box_cell hf6 rfl
    have f2 : w6.cell? ⟨w2.heap.size, 2, none⟩ = some (.int .i64 0) := box_cell hf6 rfl
    have g0 : w6.cell? ⟨w3.heap.size, 0, none⟩ = some (.int .i64 zg) := box_cell hg6 rfl
    have g1 : w6.cell? ⟨w3.heap.size, 1, none⟩ = some (.int .i64 0) := box_cell hg6 rfl
    have g2 : w6.cell? ⟨w3.heap.size, 2, none⟩ = some (.int .i64 0) := box_cell hg6 rfl
    have HFU : Hid (∀ V, Below w6.heap.size w6 V → Calls Tryz.prog 11 #[] V fun e w' => e = .returned (ints3 10 0 0) ∧ Below w6.heap.size w6 w') := fun V hV => Calls.mono (full_any V) fun e w' ⟨h1, h2⟩ => ⟨h1, hV.trans (h2.mono hV.size)⟩
    have HLL := Hid.out (p := Hid _) hll
    clear hw6 hf6 hg6 hol hos hot hdt hb6 hb46 htt HM0 H5 H4 H3 hll HAT H1 HB0
    cases ft with
    | true =>
      obtain ⟨rfl, rfl⟩ := hr1 (Or.inl rfl)
      clear hr1 hr2 t4
      cases full with
      | true =>
        obtain rfl : z = 10 := HS.out.2.2.2.2.2
        obtain rfl : ln = 0 := by rw [← HLN.out]; exact HS.out.2.2.2.1 rfl
        go_wp2_with fail
        go_region_held3 (fun w' => w'.cell? ⟨w3.heap.size, 0, none⟩ = some (.int .i64 10) ∧ w'.cell? ⟨w3.heap.size, 1, none⟩ = some (.int .i64 0) ∧ w'.cell? ⟨w3.heap.size, 2, none⟩ = some (.int .i64 0)) (refine ⟨?_, ?_, ?_⟩ <;> (repeat (first | assumption | refine cell_drw ?_ | refine cell_up ?_ _))) ((go_at_call 11; refine Calls.mono (HFU.out _ (by first | exact Below.refl _ _ | exact (Below.refl _ _).drew)) ?_; rintro e w7 ⟨rfl, hb7⟩; have j0 : w7.cell? ⟨w3.heap.size, 0, none⟩ = some (.int .i64 10) := (hb7.cell (lt_of_cell g0)).trans g0; have j1 : w7.cell? ⟨w3.heap.size, 1, none⟩ = some (.int .i64 0) := (hb7.cell (lt_of_cell g1)).trans g1; have j2 : w7.cell? ⟨w3.heap.size, 2, none⟩ = some (.int .i64 0) := (hb7.cell (lt_of_cell g2)).trans g2; have HB7 := Hid.out (p := Hid _) hb7; clear hb7))
        have u0 := (HB7.out.cell (lt_of_cell f0)).trans f0
        have u1 := (HB7.out.cell (lt_of_cell f1)).trans f1
        have u2 := (HB7.out.cell (lt_of_cell f2)).trans f2
        have v4 := (HB7.out.cell (lt_of_cell s4)).trans s4
        have v5 := (HB7.out.cell (lt_of_cell s5)).trans s5
        clear j0 j1 j2 g0 g1 g2
        go_wp2_with fail
        go_region_held3 (fun w' => w'.cell? ⟨w2.heap.size, 0, none⟩ = some (.int .i64 10) ∧ w'.cell? ⟨w2.heap.size, 1, none⟩ = some (.int .i64 0) ∧ w'.cell? ⟨w2.heap.size, 2, none⟩ = some (.int .i64 0)) (refine ⟨?_, ?_, ?_⟩ <;> (repeat (first | assumption | refine cell_drw ?_ | refine cell_up ?_ _))) ((go_at_call 11; refine Calls.mono (HFU.out _ (by first | exact HB7.out | exact HB7.out.drew)) ?_; rintro e w8 ⟨rfl, hb8⟩; have i0 : w8.cell? ⟨w2.heap.size, 0, none⟩ = some (.int .i64 10) := (hb8.cell (lt_of_cell f0)).trans f0; have i1 : w8.cell? ⟨w2.heap.size, 1, none⟩ = some (.int .i64 0) := (hb8.cell (lt_of_cell f1)).trans f1; have i2 : w8.cell? ⟨w2.heap.size, 2, none⟩ = some (.int .i64 0) := (hb8.cell (lt_of_cell f2)).trans f2; have HB8 := Hid.out (p := Hid _) hb8; clear hb8))
        go_wp2_with fail
        go_ret
        exact ⟨rfl, H6.out.1.trans (HB8.out.mono H6.out.1.size)⟩
      | false =>
        obtain rfl : z = 0 := HS.out.2.2.2.2.2
        obtain rfl : l = ls := HLL.out rfl
        rw [HLN.out] at s4
        have HSM : Hid (∀ V, Below w6.heap.size w6 V → Calls Tryz.prog 12 #[.slice a ln cap, .slice sa ln sc] V fun e w' => e = .returned (.bool true) ∧ Below w6.heap.size w6 w') := fun V hV => by
          have h := rsame_any a sa l l cap sc H6.out.2.2.2.2.2.2.1 H6.out.2.2.2.2.2.2.1 V (H6.out.2.2.2.1.below hV) (H6.out.2.2.2.2.1.below hV)
          rw [HLN.out, decide_eq_true rfl] at h
          exact Calls.mono h fun e w' ⟨h1, h2⟩ => ⟨h1, hV.trans (h2.mono hV.size)⟩
        go_wp2_with fail
        go_region_held3 (fun w' => w'.cell? ⟨w3.heap.size, 0, none⟩ = some (.int .i64 10) ∧ w'.cell? ⟨w3.heap.size, 1, none⟩ = some (.int .i64 0) ∧ w'.cell? ⟨w3.heap.size, 2, none⟩ = some (.int .i64 0)) (refine ⟨?_, ?_, ?_⟩ <;> (repeat (first | assumption | refine cell_drw ?_ | refine cell_up ?_ _))) ((go_at_call 11; refine Calls.mono (HFU.out _ (by first | exact Below.refl _ _ | exact (Below.refl _ _).drew)) ?_; rintro e w7 ⟨rfl, hb7⟩; have j0 : w7.cell? ⟨w3.heap.size, 0, none⟩ = some (.int .i64 10) := (hb7.cell (lt_of_cell g0)).trans g0; have j1 : w7.cell? ⟨w3.heap.size, 1, none⟩ = some (.int .i64 0) := (hb7.cell (lt_of_cell g1)).trans g1; have j2 : w7.cell? ⟨w3.heap.size, 2, none⟩ = some (.int .i64 0) := (hb7.cell (lt_of_cell g2)).trans g2; have HB7 := Hid.out (p := Hid _) hb7; clear hb7))
        have u0 := (HB7.out.cell (lt_of_cell f0)).trans f0
        have u1 := (HB7.out.cell (lt_of_cell f1)).trans f1
        have u2 := (HB7.out.cell (lt_of_cell f2)).trans f2
        have v4 := (HB7.out.cell (lt_of_cell s4)).trans s4
        have v5 := (HB7.out.cell (lt_of_cell s5)).trans s5
        clear j0 j1 j2 g0 g1 g2
        go_wp2_with fail
        refine Calls.mono (HSM.out _ HB7.out) ?_
        rintro e w8 ⟨rfl, hb8⟩
        have i0 := (hb8.cell (lt_of_cell f0)).trans f0
        have HB8 := Hid.out (p := Hid _) hb8
        clear hb8 u0 u1 u2 v4 v5
        go_wp2_with fail
        go_ret
        exact ⟨rfl, H6.out.1.trans (HB8.out.mono H6.out.1.size)⟩
    | false =>
      cases full with
      | true =>
        obtain ⟨rfl, rfl⟩ := hr1 (Or.inr rfl)
        clear hr1 hr2 t4
        obtain rfl : z = 10 := HS.out.2.2.2.2.2
        obtain rfl : ln = 0 := by rw [← HLN.out]; exact HS.out.2.2.2.1 rfl
        go_wp2_with fail
        go_region_held3 (fun w' => w'.cell? ⟨w3.heap.size, 0, none⟩ = some (.int .i64 10) ∧ w'.cell? ⟨w3.heap.size, 1, none⟩ = some (.int .i64 0) ∧ w'.cell? ⟨w3.heap.size, 2, none⟩ = some (.int .i64 0)) (refine ⟨?_, ?_, ?_⟩ <;> (repeat (first | assumption | refine cell_drw ?_ | refine cell_up ?_ _))) ((go_at_call 11; refine Calls.mono (HFU.out _ (by first | exact Below.refl _ _ | exact (Below.refl _ _).drew)) ?_; rintro e w7 ⟨rfl, hb7⟩; have j0 : w7.cell? ⟨w3.heap.size, 0, none⟩ = some (.int .i64 10) := (hb7.cell (lt_of_cell g0)).trans g0; have j1 : w7.cell? ⟨w3.heap.size, 1, none⟩ = some (.int .i64 0) := (hb7.cell (lt_of_cell g1)).trans g1; have j2 : w7.cell? ⟨w3.heap.size, 2, none⟩ = some (.int .i64 0) := (hb7.cell (lt_of_cell g2)).trans g2; have HB7 := Hid.out (p := Hid _) hb7; clear hb7))
        have u0 := (HB7.out.cell (lt_of_cell f0)).trans f0
        have u1 := (HB7.out.cell (lt_of_cell f1)).trans f1
        have u2 := (HB7.out.cell (lt_of_cell f2)).trans f2
        have v4 := (HB7.out.cell (lt_of_cell s4)).trans s4
        have v5 := (HB7.out.cell (lt_of_cell s5)).trans s5
        clear j0 j1 j2 g0 g1 g2
        go_wp2_with fail
        go_region_held3 (fun w' => w'.cell? ⟨w2.heap.size, 0, none⟩ = some (.int .i64 10) ∧ w'.cell? ⟨w2.heap.size, 1, none⟩ = some (.int .i64 0) ∧ w'.cell? ⟨w2.heap.size, 2, none⟩ = some (.int .i64 0)) (refine ⟨?_, ?_, ?_⟩ <;> (repeat (first | assumption | refine cell_drw ?_ | refine cell_up ?_ _))) ((go_at_call 11; refine Calls.mono (HFU.out _ (by first | exact HB7.out | exact HB7.out.drew)) ?_; rintro e w8 ⟨rfl, hb8⟩; have i0 : w8.cell? ⟨w2.heap.size, 0, none⟩ = some (.int .i64 10) := (hb8.cell (lt_of_cell f0)).trans f0; have i1 : w8.cell? ⟨w2.heap.size, 1, none⟩ = some (.int .i64 0) := (hb8.cell (lt_of_cell f1)).trans f1; have i2 : w8.cell? ⟨w2.heap.size, 2, none⟩ = some (.int .i64 0) := (hb8.cell (lt_of_cell f2)).trans f2; have HB8 := Hid.out (p := Hid _) hb8; clear hb8))
        go_wp2_with fail
        go_ret
        exact ⟨rfl, H6.out.1.trans (HB8.out.mono H6.out.1.size)⟩
      | false =>
        obtain ⟨hr, rfl⟩ := hr2 rfl rfl
        obtain rfl : z = 0 := HS.out.2.2.2.2.2
        obtain rfl : l = ls := HLL.out rfl
        rw [HLN.out] at s4
        have HSM : Hid (∀ V, Below w6.heap.size w6 V → Calls Tryz.prog 12 #[.slice a ln cap, .slice sa ln sc] V fun e w' => e = .returned (.bool true) ∧ Below w6.heap.size w6 w') := fun V hV => by
          have h := rsame_any a sa l l cap sc H6.out.2.2.2.2.2.2.1 H6.out.2.2.2.2.2.2.1 V (H6.out.2.2.2.1.below hV) (H6.out.2.2.2.2.1.below hV)
          rw [HLN.out, decide_eq_true rfl] at h
          exact Calls.mono h fun e w' ⟨h1, h2⟩ => ⟨h1, hV.trans (h2.mono hV.size)⟩
        obtain ⟨lt', hlt⟩ : ∃ k, lt.length = k := ⟨_, rfl⟩
        have HST : Hid (∀ V, Below w6.heap.size w6 V → Calls Tryz.prog 12 #[.slice sa ln sc, .slice ta lt' tc] V fun e w' => e = .returned (.bool r) ∧ Below w6.heap.size w6 w') := fun V hV => by
          have h := rsame_any sa ta l lt sc tc H6.out.2.2.2.2.2.2.1 H6.out.2.2.2.2.2.2.2.2 V (H6.out.2.2.2.2.1.below hV) (H6.out.2.2.2.2.2.1.below hV)
          rw [HLN.out, hlt, ← hr] at h
          exact Calls.mono h fun e w' ⟨h1, h2⟩ => ⟨h1, hV.trans (h2.mono hV.size)⟩
        rw [hlt] at t4
        clear hr1 hr2 hr hlt
        go_wp2_with fail
        go_region_held3 (fun w' => w'.cell? ⟨ps, 4, none⟩ = some (.slice sa ln sc) ∧ w'.cell? ⟨pt, 4, none⟩ = some (.slice ta lt' tc)) (refine ⟨?_, ?_⟩ <;> (repeat (first | assumption | refine cell_drw ?_ | refine cell_up ?_ _))) ((go_at_call 12; refine Calls.mono (HST.out _ (by first | exact Below.refl _ _ | exact (Below.refl _ _).drew)) ?_; rintro e w7 ⟨rfl, hb7⟩; have y4 : w7.cell? ⟨ps, 4, none⟩ = some (.slice sa ln sc) := (hb7.cell (lt_of_cell s4)).trans s4; have x4 : w7.cell? ⟨pt, 4, none⟩ = some (.slice ta lt' tc) := (hb7.cell (lt_of_cell t4)).trans t4; have HB7 := Hid.out (p := Hid _) hb7))
        have u0 := (HB7.out.cell (lt_of_cell f0)).trans f0
        have u1 := (HB7.out.cell (lt_of_cell f1)).trans f1
        have u2 := (HB7.out.cell (lt_of_cell f2)).trans f2
        have v4 := (HB7.out.cell (lt_of_cell s4)).trans s4
        have v5 := (HB7.out.cell (lt_of_cell s5)).trans s5
        have k0 := (HB7.out.cell (lt_of_cell g0)).trans g0
        clear HST hb7 g0 g1 g2 x4 y4
        cases r with
        | true =>
          go_wp2_with fail
          refine Calls.mono (HSM.out _ HB7.out) ?_
          rintro e w8 ⟨rfl, hb8⟩
          have i0 := (hb8.cell (lt_of_cell f0)).trans f0
          have HB8 := Hid.out (p := Hid _) hb8
          clear hb8 u0 u1 u2 v4 v5 k0
          go_wp2_with fail
          go_ret
          exact ⟨rfl, H6.out.1.trans (HB8.out.mono H6.out.1.size)⟩
        | false =>
          go_wp2_with fail
          refine Calls.mono (HSM.out _ HB7.out) ?_
          rintro e w8 ⟨rfl, hb8⟩
          have i0 := (hb8.cell (lt_of_cell f0)).trans f0
          have HB8 := Hid.out (p := Hid _) hb8
          clear hb8 u0 u1 u2 v4 v5 k0
          go_wp2_with fail
          go_ret
          exact ⟨rfl, H6.out.1.trans (HB8.out.mono H6.out.1.size)⟩

/-- The law of all outcomes with waiting stores. -/
theorem spaceTSO_any (w : World) (ca : Option Addr) (n cc : Nat) (wa : Option Addr) (wc : Nat) (lk rg : Int) (words : List Int) (A : Nat → Option Addr) (L C : Nat → Nat) (X : Nat → Nat → Nat → Int) (hm : words.length ≤ 9223372036854775807) (hp : PIn w ca n A L C X) (hw : SIs w wa words) (hnil : wa = none → words = [] ∧ wc = 0) (hfit : ∀ t i, t < n → i < L t → I64n (X t i 2)) (hwf : ∀ x, x ∈ words → I64n x) (htab : TabB w.heap.size w) :
    Calls Tryz.prog 4 #[prgV ca n cc wa words.length wc lk rg] w fun e w' => e = .returned (.bool true) ∧ Below w.heap.size w w' := by
  obtain ⟨x, y, z, hR⟩ : ∃ x y z, chk n L X words.length lk rg = (x, y, z) := ⟨_, _, _, rfl⟩
  by_cases hx : x = 0
  · obtain ⟨rfl, rfl, hn0, lk', rg', rfl, rfl, hc⟩ := chk_cok hR hx
    subst hx
    exact spaceTSO_yes w ca n cc wa wc lk' rg' words A L C X hR hp hc hn0 hw hnil hfit hwf htab
  · exact spaceTSO_no w ca n cc wa words.length wc lk rg A L C X x y z hR (by simpa using hx) hm hp

end Go.Proofs.YtgofbkgfonlceabGreatDoor
