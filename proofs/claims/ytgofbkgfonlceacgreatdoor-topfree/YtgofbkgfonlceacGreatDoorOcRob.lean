/-
  Whether stores that wait bring anything about, by the program: Robust.
-/
import Derived.Test.YtgofbkgfonlceacGreatDoorOcSC
import Derived.Test.YtgofbkgfonlceacGreatDoorOcSame
import Derived.Test.YtgofbkgfonlceacGreatDoorZPut
import Derived.Test.YtgofbkgfonlceacGreatDoorRMay
namespace Go.Proofs.YtgofbkgfonlceacGreatDoor
open Go.RowKit Go.Sort Go.Shelf

theorem setCell_id {w : World} {g i : Nat} {cs : Array Value} {t : TypeId} {v : Value} (h : w.heap[g]? = some (.cells cs t)) (hi : cs[i]? = some v) : w.setCell ⟨g, i, none⟩ v = w := by
  have e : (w.setCell ⟨g, i, none⟩ v).heap = w.heap := by
    apply Array.ext_getElem?
    intro k
    by_cases hk : k = g
    · subst hk
      rw [heap_set_same h, h]
      congr 2
      apply Array.ext_getElem?
      intro j
      rw [Array.getElem?_setIfInBounds]
      by_cases hj : i = j
      · subst hj
        rw [if_pos rfl, hi]
        split
        · rfl
        · rename_i hlt
          rw [Array.getElem?_eq_none (by omega)] at hi; cases hi
      · rw [if_neg hj]
    · exact Below.heap_setCell _ _ _ _ hk
  unfold World.setCell at e ⊢
  simp only at e
  rw [e]
set_option maxRecDepth 100000 in
set_option maxHeartbeats 1600000 in
/-- Two lists of outcomes are alike. -/
theorem alike_any (w : World) (a b : Option Addr) (n m c d : Nat) (r : Bool) (h : Calls Tryz.prog 65 #[.slice a n c, .slice b m d, .func (.func 66) #[] #[]] w fun e w' => e = .returned (.bool r) ∧ Below w.heap.size w w') :
    Calls Tryz.prog 28 #[.slice a n c, .slice b m d] w fun e w' => e = .returned (.bool r) ∧ Below w.heap.size w w' := by
  have HH := Hid.out (p := Hid _) h
  clear h
  go_enter Tryz.func28, Tryz.ntmps28
  go_wp2_with fail
  refine Calls.mono HH.out ?_
  rintro e w1 ⟨rfl, hb1⟩
  have H1 := Hid.out (p := Hid _) hb1
  clear HH hb1
  go_wp2_with fail
  go_ret
  exact ⟨rfl, H1.out⟩
/-- What Robust tells of a program that passed Check. -/
def RobQ (L : Nat → Nat) (X : Nat → Nat → Nat → Int) (s0 : Sx) (r : Bool) (z : Int) : Prop :=
  (∃ l1, Told (nxX L X 0) (outsX L X 0) s0 4000 true l1 ∧ r = false ∧ z = 10) ∨ ∃ l1 f2 l2, Told (nxX L X 0) (outsX L X 0) s0 4000 false l1 ∧ Told (nxX L X 1) (outsX L X 1) s0 4000 f2 l2 ∧ ((f2 = true ∧ r = false ∧ z = 10) ∨ (f2 = false ∧ r = decide (l1 = l2) ∧ z = 0))
/-- What SC and TSO tell, for those who go on with it. -/
def SpcX (W : World) (L : Nat → Nat) (X : Nat → Nat → Nat → Int) (mode : Int) (s0 : Sx) (full : Bool) (a : Option Addr) (len : Nat) (es : List En) (w' : World) : Prop :=
  Told (nxX L X mode) (outsX L X mode) s0 4000 full (es.map En.o) ∧ es.length = len ∧ EIn w' a es ∧ (∀ x, x ∈ es → EnOk w' x) ∧ len ≤ 100000 ∧ (full = true → len = 0) ∧ Below W.heap.size W w'
theorem OutQ.x {W w' : World} {L : Nat → Nat} {X : Nat → Nat → Nat → Int} {mode : Int} {s0 : Sx} {e : Ending} (h : OutQ W L X mode s0 e w') : ∃ (full : Bool) (z : Int) (a : Option Addr) (len cap : Nat) (es : List En), e = .returned (.tuple #[.slice a len cap, ints3 z 0 0]) ∧ Hid (SpcX W L X mode s0 full a len es w' ∧ z = if full then 10 else 0) := by
  obtain ⟨full, a, len, cap, es, h1, h2, h3, h4, h5, h6, h7, h8⟩ := h.spc (Below.refl _ _)
  exact ⟨full, _, a, len, cap, es, h1, ⟨h2, h3, h4, h5, h7, h6, h8⟩, rfl⟩
set_option maxRecDepth 100000 in
set_option maxHeartbeats 3200000 in
theorem robust_yes (w : World) (ca : Option Addr) (n cc : Nat) (wa : Option Addr) (wc lk rg : Nat) (words : List Int) (A : Nat → Option Addr) (L C : Nat → Nat) (X : Nat → Nat → Nat → Int) (HR : Hid (chk n L X words.length lk rg = (0, 0, 0))) (hp : PIn w ca n A L C X) (hc : COk n L X words.length lk rg) (hn0 : 0 < n) (hw : SIs w wa words) (hnil : wa = none → words = [] ∧ wc = 0) (hfit : ∀ t i, t < n → i < L t → I64n (X t i 2)) (hwf : ∀ x, x ∈ words → I64n x) (htab : TabB w.heap.size w) :
    Calls Tryz.prog 11 #[prgV ca n cc wa words.length wc lk rg] w fun e w' => ∃ r z, e = .returned (.tuple #[.bool r, ints3 z 0 0]) ∧ RobQ L X (beginX n words lk rg) r z ∧ Below w.heap.size w w' := by
  have HSC : Hid (∀ V, Below w.heap.size w V → Calls Tryz.prog 26 #[prgV ca n cc wa words.length wc lk rg] V fun e w' => ∃ (full : Bool) (z : Int) (a : Option Addr) (len cap : Nat) (es : List En), e = .returned (.tuple #[.slice a len cap, ints3 z 0 0]) ∧ Hid (SpcX V L X 0 (beginX n words lk rg) full a len es w' ∧ z = if full then 10 else 0)) := fun V hb => Calls.mono (sc_yes V ca n cc wa wc lk rg words A L C X HR (hp.below hb) hc hn0 (hw.below hb) hnil hfit hwf (htab.up hb)) fun e w' h => h.x
  have HTS : Hid (∀ V, Below w.heap.size w V → Calls Tryz.prog 27 #[prgV ca n cc wa words.length wc lk rg] V fun e w' => ∃ (full : Bool) (z : Int) (a : Option Addr) (len cap : Nat) (es : List En), e = .returned (.tuple #[.slice a len cap, ints3 z 0 0]) ∧ Hid (SpcX V L X 1 (beginX n words lk rg) full a len es w' ∧ z = if full then 10 else 0)) := fun V hb => Calls.mono (tso_yes V ca n cc wa wc lk rg words A L C X HR (hp.below hb) hc hn0 (hw.below hb) hnil hfit hwf (htab.up hb)) fun e w' h => h.x
  obtain ⟨s0, hs0⟩ : ∃ s0, beginX n words lk rg = s0 := ⟨_, rfl⟩
  rw [hs0] at HSC HTS ⊢
  obtain ⟨m, hmm⟩ : ∃ k, words.length = k := ⟨_, rfl⟩
  rw [hmm] at HSC HTS ⊢
  clear HR hp hc hn0 hw hnil hfit hwf htab hs0 hmm
  obtain ⟨PB, hPB⟩ : ∃ o : Obj, o = .cells #[.slice ca n cc, .slice wa m wc, .int .i64 (lk : Int), .int .i64 (rg : Int)] 25 := ⟨_, rfl⟩
  obtain ⟨W0, hW0⟩ : ∃ V, V = (w.alloc PB).alloc (.cells #[.int .i64 0, .int .i64 0, .int .i64 0] 30) := ⟨_, rfl⟩
  have hz0 : W0.heap.size = w.heap.size + 1 + 1 := by rw [hW0]; simp
  have hb0 : Below w.heap.size w W0 := by rw [hW0]; exact ((Below.refl _ _).alloc (Nat.le_refl _) _).alloc (by simp) _
  have hp0 : W0.heap[w.heap.size]? = some PB := by rw [hW0]; exact box_later (heap_alloc_new _ _) _
  have hf0 : W0.heap[w.heap.size + 1]? = some (.cells #[.int .i64 0, .int .i64 0, .int .i64 0] 30) := by
    have := heap_alloc_new (w.alloc PB) (.cells #[.int .i64 0, .int .i64 0, .int .i64 0] 30)
    rw [World.size_alloc] at this
    rw [hW0]; exact this
  have HW0 : Hid ((w.alloc (.cells #[.slice ca n cc, .slice wa m wc, .int .i64 (lk : Int), .int .i64 (rg : Int)] 25)).alloc (.cells #[.int .i64 0, .int .i64 0, .int .i64 0] 30) = W0) := by rw [hW0, hPB]; exact rfl
  have HAT : Hid (∀ V, Below W0.heap.size W0 V → (V.cell? ⟨w.heap.size, 0, none⟩ = some (.slice ca n cc) ∧ V.cell? ⟨w.heap.size, 1, none⟩ = some (.slice wa m wc) ∧ V.cell? ⟨w.heap.size, 2, none⟩ = some (.int .i64 (lk : Int)) ∧ V.cell? ⟨w.heap.size, 3, none⟩ = some (.int .i64 (rg : Int))) ∧ (V.cell? ⟨w.heap.size + 1, 0, none⟩ = some (.int .i64 0) ∧ V.cell? ⟨w.heap.size + 1, 1, none⟩ = some (.int .i64 0) ∧ V.cell? ⟨w.heap.size + 1, 2, none⟩ = some (.int .i64 0)) ∧ (∀ i, V.frozen? ⟨w.heap.size + 1, i, none⟩ = false) ∧ Below w.heap.size w V) := fun V hb => by
    have e1 := (hb.block w.heap.size (by omega)).trans hp0
    have e2 := (hb.block (w.heap.size + 1) (by omega)).trans hf0
    rw [hPB] at e1
    exact ⟨⟨box_cell e1 rfl, box_cell e1 rfl, box_cell e1 rfl, box_cell e1 rfl⟩, ⟨box_cell e2 rfl, box_cell e2 rfl, box_cell e2 rfl⟩, fun i => box_free e2, hb0.trans (hb.mono hb0.size)⟩
  have HB0 := Hid.out (p := Hid _) hb0
  clear hPB hW0 hp0 hf0 hb0
  go_enter Tryz.func11, Tryz.ntmps11
  go_wp2_with fail
  rw [HW0.out]
  refine Calls.mono (HSC.out _ HB0.out) ?_
  rintro e w1 ⟨full1, z1, a1, n1, c1, es1, rfl, H1⟩
  have hb1 : Below W0.heap.size W0 w1 := H1.out.1.2.2.2.2.2.2
  have hup := fun o => HAT.out (w1.alloc o) (hb1.alloc hb1.size o)
  have p0 := fun o => (hup o).1.1
  have p1 := fun o => (hup o).1.2.1
  have p2 := fun o => (hup o).1.2.2.1
  have p3 := fun o => (hup o).1.2.2.2
  have f0 := fun o => (hup o).2.1.1
  have f1 := fun o => (hup o).2.1.2.1
  have f2 := fun o => (hup o).2.1.2.2
  have ff := fun o => (hup o).2.2.1
  have hsz1 : w.heap.size + 1 + 1 ≤ w1.heap.size := by have := hb1.size; omega
  have n1' : w1.heap.size ≠ w.heap.size + 1 := by omega
  have n2' : w.heap.size + 1 ≠ w1.heap.size := by omega
  have HW1 : Hid (Below W0.heap.size W0 w1 ∧ ∀ o, Below w.heap.size w (w1.alloc o)) := ⟨hb1, fun o => (hup o).2.2.2⟩
  clear HSC HW0 hb1 hup
  cases full1 with
  | true =>
    obtain rfl : z1 = 10 := H1.out.2
    have HQ : Hid (RobQ L X s0 false 10) := Or.inl ⟨_, H1.out.1.1, rfl, rfl⟩
    have HBB : Hid (Below w.heap.size w (w1.alloc (.cells #[.int .i64 10, .int .i64 0, .int .i64 0] 30))) := HW1.out.2 _
    clear H1 HW1 HTS p0 p1 p2 p3
    go_wp2_with fail
    go_region
    all_goals go_wp2
    all_goals refine bodyPost_ret (v := .tuple #[.bool false, ints3 10 0 0]) (by simp [results, Tryz.results11, go_sem, cell_set, f0, f1, f2]) rfl ⟨false, 10, rfl, HQ.out, ?_⟩
    all_goals exact ((HBB.out.drew.setCell (Nat.le_succ _) _).setCell (Nat.le_succ _) _).setCell (Nat.le_succ _) _
  | false =>
    obtain rfl : z1 = 0 := H1.out.2
    go_wp2_with fail
    obtain ⟨V, hV⟩ : ∃ V, w1.alloc (.cells #[.int .i64 0, .int .i64 0, .int .i64 0] 30) = V := ⟨_, rfl⟩
    rw [hV]
    have hbV : Below w1.heap.size w1 V := by rw [← hV]; exact (Below.refl _ _).alloc (Nat.le_refl _) _
    have hwV : Below w.heap.size w V := by rw [← hV]; exact HW1.out.2 _
    have hfV : V.heap[w1.heap.size]? = some (.cells #[.int .i64 0, .int .i64 0, .int .i64 0] 30) := by rw [← hV]; exact heap_alloc_new _ _
    refine Calls.mono (HTS.out _ hwV) ?_
    rintro e w2 ⟨full2, z2, a2, n2, c2, es2, rfl, H2⟩
    have hb2 : Below V.heap.size V w2 := H2.out.1.2.2.2.2.2.2
    have hb12 : Below w1.heap.size w1 w2 := hbV.trans (hb2.mono hbV.size)
    have hb02 : Below W0.heap.size W0 w2 := HW1.out.1.trans (hb12.mono HW1.out.1.size)
    obtain ⟨_, ⟨h0, h1, h2⟩, hh, hw2⟩ := HAT.out w2 hb02
    have hf2 : w2.heap[w1.heap.size]? = some (.cells #[.int .i64 0, .int .i64 0, .int .i64 0] 30) := (hb2.block _ (box_lt hfV)).trans hfV
    have g0 : w2.cell? ⟨w1.heap.size, 0, none⟩ = some (.int .i64 0) := box_cell hf2 rfl
    have g1 : w2.cell? ⟨w1.heap.size, 1, none⟩ = some (.int .i64 0) := box_cell hf2 rfl
    have g2 : w2.cell? ⟨w1.heap.size, 2, none⟩ = some (.int .i64 0) := box_cell hf2 rfl
    have gf : ∀ i, w2.frozen? ⟨w1.heap.size, i, none⟩ = false := fun i => box_free hf2
    have HSET : Hid (∀ x y u, Below w.heap.size w (((w2.setCell ⟨w1.heap.size, 0, none⟩ x).setCell ⟨w1.heap.size, 1, none⟩ y).setCell ⟨w1.heap.size, 2, none⟩ u) ∧ ∀ k, k ≠ w1.heap.size → (((w2.setCell ⟨w1.heap.size, 0, none⟩ x).setCell ⟨w1.heap.size, 1, none⟩ y).setCell ⟨w1.heap.size, 2, none⟩ u).heap[k]? = w2.heap[k]?) := fun x y u => ⟨((hw2.setCell (by show w.heap.size ≤ w1.heap.size; omega) _).setCell (by show w.heap.size ≤ w1.heap.size; omega) _).setCell (by show w.heap.size ≤ w1.heap.size; omega) _, fun k hk => by rw [Below.heap_setCell _ _ _ _ hk, Below.heap_setCell _ _ _ _ hk, Below.heap_setCell _ _ _ _ hk]⟩
    have HF2 := Hid.out (p := Hid _) (And.intro hf2 (And.intro hb12 (And.intro hb2 hb02)))
    clear HTS p0 p1 p2 p3 f0 f1 f2 ff hV hbV hwV hfV hb2 hb12 hb02 hw2 hf2
    cases full2 with
    | true =>
      obtain rfl : z2 = 10 := H2.out.2
      have HQ : Hid (RobQ L X s0 false 10) := Or.inr ⟨_, _, _, H1.out.1.1, H2.out.1.1, Or.inl ⟨rfl, rfl, rfl⟩⟩
      obtain ⟨V3, hV3⟩ : ∃ V3, ((w2.setCell ⟨w1.heap.size, 0, none⟩ (.int .i64 10)).setCell ⟨w1.heap.size, 1, none⟩ (.int .i64 0)).setCell ⟨w1.heap.size, 2, none⟩ (.int .i64 0) = V3 := ⟨_, rfl⟩
      have HV3 := Hid.out (p := Hid _) hV3
      have hb3 : Below w.heap.size w V3 := by rw [← hV3]; exact (HSET.out _ _ _).1
      have HB3 := Hid.out (p := Hid _) hb3
      have e3 : V3.heap[w1.heap.size]? = some (.cells #[.int .i64 10, .int .i64 0, .int .i64 0] 30) := by
        rw [← hV3]
        exact heap_set_same (heap_set_same (heap_set_same HF2.out.1))
      have e4 : V3.heap[w.heap.size + 1]? = w2.heap[w.heap.size + 1]? := by rw [← hV3]; exact (HSET.out _ _ _).2 _ n2'
      have k0 : V3.cell? ⟨w1.heap.size, 0, none⟩ = some (.int .i64 10) := box_cell e3 rfl
      have k1 : V3.cell? ⟨w1.heap.size, 1, none⟩ = some (.int .i64 0) := box_cell e3 rfl
      have k2 : V3.cell? ⟨w1.heap.size, 2, none⟩ = some (.int .i64 0) := box_cell e3 rfl
      have m0 : V3.cell? ⟨w.heap.size + 1, 0, none⟩ = some (.int .i64 0) := (World.cell?_of_block e4).trans h0
      have m1 : V3.cell? ⟨w.heap.size + 1, 1, none⟩ = some (.int .i64 0) := (World.cell?_of_block e4).trans h1
      have m2 : V3.cell? ⟨w.heap.size + 1, 2, none⟩ = some (.int .i64 0) := (World.cell?_of_block e4).trans h2
      have mf : ∀ i, V3.frozen? ⟨w.heap.size + 1, i, none⟩ = false := fun i => (World.frozen?_of_block e4).trans (hh i)
      clear H1 H2 HW1 HF2 HAT hV3 hb3 e3 e4
      go_wp2_with fail
      rw [HV3.out]
      clear h0 h1 h2 hh g0 g1 g2 gf HSET HV3
      go_region
      all_goals go_wp2
      all_goals refine bodyPost_ret (v := .tuple #[.bool false, ints3 10 0 0]) (by simp [results, Tryz.results11, go_sem, cell_set, m0, m1, m2]) rfl ⟨false, 10, rfl, HQ.out, ?_⟩
      all_goals exact ((HB3.out.drew.setCell (Nat.le_succ _) _).setCell (Nat.le_succ _) _).setCell (Nat.le_succ _) _
    | false =>
      obtain rfl : z2 = 0 := H2.out.2
      have hid : ((w2.setCell ⟨w1.heap.size, 0, none⟩ (.int .i64 0)).setCell ⟨w1.heap.size, 1, none⟩ (.int .i64 0)).setCell ⟨w1.heap.size, 2, none⟩ (.int .i64 0) = w2 := by
        rw [setCell_id HF2.out.1 rfl, setCell_id HF2.out.1 rfl, setCell_id HF2.out.1 rfl]
      have HID := Hid.out (p := Hid _) hid
      have HEQ : Hid (Calls Tryz.prog 28 #[.slice a1 n1 c1, .slice a2 n2 c2] w2 fun e w' => e = .returned (.bool (decide (es1.map En.o = es2.map En.o))) ∧ Below w2.heap.size w2 w') := by
        have x1 := H1.out.1
        have x2 := H2.out.1
        have h := equal_any w2 a1 a2 es1 es2 c1 c2 (x1.2.2.1.below HF2.out.2.1) x2.2.2.1 (fun x hx => (x1.2.2.2.1 x hx).below HF2.out.2.1) x2.2.2.2.1 (by rw [x1.2.1]; exact x1.2.2.2.2.1) (by rw [x2.2.1]; exact x2.2.2.2.2.1)
        rw [x1.2.1, x2.2.1] at h
        exact alike_any w2 a1 a2 n1 n2 c1 c2 _ h
      have HQ : Hid (RobQ L X s0 (decide (es1.map En.o = es2.map En.o)) 0) := Or.inr ⟨_, _, _, H1.out.1.1, H2.out.1.1, Or.inr ⟨rfl, rfl, rfl⟩⟩
      obtain ⟨r, hr⟩ : ∃ r, decide (es1.map En.o = es2.map En.o) = r := ⟨_, rfl⟩
      rw [hr] at HEQ HQ
      clear H1 H2 HW1 hid hr HSET
      go_wp2_with fail
      rw [HID.out]
      refine Calls.mono HEQ.out ?_
      rintro e w3 ⟨rfl, hb3⟩
      obtain ⟨_, ⟨j0, j1, j2⟩, jj, hw3⟩ := HAT.out w3 (HF2.out.2.2.2.trans (hb3.mono HF2.out.2.2.2.size))
      have HW3 := Hid.out (p := Hid _) hw3
      clear HEQ HID HAT HF2 hb3 hw3 h0 h1 h2 hh g0 g1 g2 gf
      go_wp2_with fail
      refine bodyPost_ret (v := .tuple #[.bool r, ints3 0 0 0]) (by simp [results, Tryz.results11, go_sem, cell_set, j0, j1, j2]) rfl ⟨r, 0, rfl, HQ.out, ?_⟩
      exact ((HW3.out.setCell (Nat.le_succ _) _).setCell (Nat.le_succ _) _).setCell (Nat.le_succ _) _

set_option maxRecDepth 100000 in
set_option maxHeartbeats 3200000 in
theorem robust_no (w : World) (ca : Option Addr) (n cc : Nat) (wa : Option Addr) (m wc : Nat) (lk rg : Int) (A : Nat → Option Addr) (L C : Nat → Nat) (X : Nat → Nat → Nat → Int) (x y z : Int) (HR : Hid (chk n L X m lk rg = (x, y, z))) (hx : (x != 0) = true) (hp : PIn w ca n A L C X) :
    Calls Tryz.prog 11 #[prgV ca n cc wa m wc lk rg] w fun e w' => e = .returned (.tuple #[.bool false, ints3 x y z]) ∧ Below w.heap.size w w' := by
  have HSC : Hid (∀ W, Below w.heap.size w W → Calls Tryz.prog 26 #[prgV ca n cc wa m wc lk rg] W fun e w' => e = .returned (.tuple #[nilV, ints3 x y z]) ∧ Below W.heap.size W w') := fun W hb => sc_no W ca n cc wa m wc lk rg A L C X x y z HR hx (hp.below hb)
  clear HR hp
  go_enter Tryz.func11, Tryz.ntmps11
  go_wp2_with fail
  refine Calls.mono (HSC.out _ (((Below.refl _ _).alloc (Nat.le_refl _) _).alloc (by simp) _)) ?_
  rintro e w1 ⟨rfl, hb1⟩
  have hs1 := hb1.size
  simp only [World.size_alloc] at hs1
  have HB1 : Below w.heap.size w w1 := (((Below.refl _ _).alloc (Nat.le_refl _) _).alloc (by simp) _).trans (hb1.mono (by simp; omega))
  have hF : w1.heap[w.heap.size + 1]? = some (.cells #[.int .i64 0, .int .i64 0, .int .i64 0] 30) := by
    refine (hb1.block _ (by simp)).trans ?_
    have := heap_alloc_new (w.alloc (.cells #[.slice ca n cc, .slice wa m wc, .int .i64 lk, .int .i64 rg] 25)) (.cells #[.int .i64 0, .int .i64 0, .int .i64 0] 30)
    rwa [World.size_alloc] at this
  have u0 : ∀ o, (w1.alloc o).cell? ⟨w.heap.size + 1, 0, none⟩ = some (.int .i64 0) := fun o => box_cell (box_later hF o) rfl
  have u1 : ∀ o, (w1.alloc o).cell? ⟨w.heap.size + 1, 1, none⟩ = some (.int .i64 0) := fun o => box_cell (box_later hF o) rfl
  have u2 : ∀ o, (w1.alloc o).cell? ⟨w.heap.size + 1, 2, none⟩ = some (.int .i64 0) := fun o => box_cell (box_later hF o) rfl
  have uf : ∀ o i, (w1.alloc o).frozen? ⟨w.heap.size + 1, i, none⟩ = false := fun o i => box_free (box_later hF o)
  have n1 : w1.heap.size ≠ w.heap.size + 1 := by omega
  have n3 : w.heap.size + 1 ≠ w1.heap.size := by omega
  have hB : Below w.heap.size w (w1.alloc (.cells #[.int .i64 x, .int .i64 y, .int .i64 z] 30)) := HB1.alloc HB1.size _
  have HBB := Hid.out (p := Hid _) hB
  clear hb1 hF HSC HB1 hB
  go_wp2_with fail
  go_region
  all_goals go_wp2
  all_goals refine bodyPost_ret (v := .tuple #[.bool false, ints3 x y z]) (by simp [results, Tryz.results11, go_sem, cell_set, u0, u1, u2]) rfl ⟨rfl, ?_⟩
  all_goals exact ((HBB.out.drew.setCell (Nat.le_succ _) _).setCell (Nat.le_succ _) _).setCell (Nat.le_succ _) _

end Go.Proofs.YtgofbkgfonlceacGreatDoor
