/-
  All outcomes of a program, by the program: SC and TSO.
-/
import Derived.Test.YtgofbkgfonlceacGreatDoorOcOut
import Derived.Test.YtgofbkgfonlceacGreatDoorWClone2
import Derived.Test.YtgofbkgfonlceacGreatDoorRcLink
import Derived.Test.YtgofbkgfonlceacGreatDoorPNew2
namespace Go.Proofs.YtgofbkgfonlceacGreatDoor
open Go.RowKit Go.Sort Go.Shelf

theorem plain_kind : KindOk plainK 185 178 where
  hM := plain_law
  hT := plain_tell
  hC := plain_clone
  ty r := by cases r <;> simp [wTy, pTy, plainK]
  oty r := by cases r <;> simp [pTy, plainK]
theorem buf_kind : KindOk bufK 196 192 where
  hM := buf_law
  hT := buf_tell
  hC := buf_clone
  ty r := by cases r <;> simp [wTy, pTy, bufK]
  oty r := by cases r <;> simp [pTy, bufK]
/-- What SC and TSO tell of a program that passed Check. -/
def SpcQ (w : World) (L : Nat → Nat) (X : Nat → Nat → Nat → Int) (mode : Int) (s0 : Sx) (e : Ending) (w' : World) : Prop :=
  ∃ (full : Bool) (a : Option Addr) (len cap : Nat) (es : List En), e = .returned (.tuple #[.slice a len cap, ints3 (if full then 10 else 0) 0 0]) ∧ Told (nxX L X mode) (outsX L X mode) s0 4000 full (es.map En.o) ∧ es.length = len ∧ EIn w' a es ∧ (∀ x, x ∈ es → EnOk w' x) ∧ (full = true → len = 0) ∧ len ≤ 100000 ∧ Below w.heap.size w w'
theorem IsO.ein {w : World} {B : Nat} {a : Option Addr} {n c : Nat} {es : List En} (h : IsO w B a n c es) : EIn w a es := fun i hi => by
  rcases h.lies with ⟨_, hz, _⟩ | ⟨g, cur, rfl, _⟩
  · have := h.is; omega
  · obtain ⟨h1, h2, h3⟩ := h.cells (k := i) (by rw [← h.is]; exact hi)
    exact ⟨g, 0, rfl, by rw [Nat.zero_add]; exact h1, by rw [Nat.zero_add]; exact h2, by rw [Nat.zero_add]; exact h3⟩
theorem OutQ.spc {w W w' : World} {L : Nat → Nat} {X : Nat → Nat → Nat → Int} {mode : Int} {s0 : Sx} {e : Ending} (h : OutQ W L X mode s0 e w') (hb : Below w.heap.size w W) : SpcQ w L X mode s0 e w' := by
  obtain ⟨full, a, len, cap, es, h1, h2, h3, h4, h5, h6, h7⟩ := h
  exact ⟨full, a, len, cap, es, h1, h2, h3.is, h3.ein, fun x hx => (h4 x hx).ok, h5, h6, hb.trans (h7.mono hb.size)⟩
theorem TabB.up {w W : World} (h : TabB w.heap.size w) (hb : Below w.heap.size w W) : TabB W.heap.size W := fun w' h' => h w' (hb.trans (h'.mono hb.size))
theorem OutQ.form {w w' : World} {L : Nat → Nat} {X : Nat → Nat → Nat → Int} {mode : Int} {s0 : Sx} {e : Ending} (h : OutQ w L X mode s0 e w') : (∃ (a : Option Addr) (l c : Nat) (z : Int), e = .returned (.tuple #[.slice a l c, ints3 z 0 0])) ∧ Below w.heap.size w w' := by
  obtain ⟨full, a, len, cap, es, h1, _, _, _, _, _, h7⟩ := h
  exact ⟨⟨a, len, cap, _, h1⟩, h7⟩
theorem OutQ.move {w W w4 w' : World} {L : Nat → Nat} {X : Nat → Nat → Nat → Int} {mode : Int} {s0 : Sx} {e : Ending} (h : OutQ W L X mode s0 e w4) (hW : w.heap.size ≤ W.heap.size) (hk : ∀ j, W.heap.size ≤ j → w'.heap[j]? = w4.heap[j]?) (hb : Below w.heap.size w w') : OutQ w L X mode s0 e w' := by
  obtain ⟨full, a, len, cap, es, h1, h2, h3, h4, h5, h6, h7⟩ := h
  have hr : ∀ {e : TypeId} {size : Nat} {v : Value} {n : Nat} {xs : List Value}, w4.ownsRow W.heap.size e size v n xs → w'.ownsRow w.heap.size e size v n xs := fun hr => own_low (fam_keeps hr (fun g hg => hk g (hr.lt g hg).1)) hW
  exact ⟨full, a, len, cap, es, h1, h2, ⟨h3.is, hr h3.own⟩, fun x hx => ⟨hr (h4 x hx).ws, hr (h4 x hx).pr, (h4 x hx).wl, (h4 x hx).pl⟩, h5, h6, hb⟩
set_option maxRecDepth 100000 in
set_option maxHeartbeats 3200000 in
/-- SC of a program that passed Check. -/
theorem sc_yes (w : World) (ca : Option Addr) (n cc : Nat) (wa : Option Addr) (wc lk rg : Nat) (words : List Int) (A : Nat → Option Addr) (L C : Nat → Nat) (X : Nat → Nat → Nat → Int) (HR : Hid (chk n L X words.length lk rg = (0, 0, 0))) (hp : PIn w ca n A L C X) (hc : COk n L X words.length lk rg) (hn0 : 0 < n) (hw : SIs w wa words) (hnil : wa = none → words = [] ∧ wc = 0) (hfit : ∀ t i, t < n → i < L t → I64n (X t i 2)) (hwf : ∀ x, x ∈ words → I64n x) (htab : TabB w.heap.size w) :
    Calls Tryz.prog 26 #[prgV ca n cc wa words.length wc lk rg] w (OutQ w L X 0 (beginX n words lk rg)) := by
  have HCHK : Hid (∀ W, Below w.heap.size w W → Calls Tryz.prog 15 #[prgV ca n cc wa words.length wc lk rg] W fun e w' => e = .returned (ints3 0 0 0) ∧ Below W.heap.size W w') := fun W hb => check_any ca n cc wa words.length wc lk rg A L C X 0 0 0 HR W (hp.below hb)
  have HNEW : Hid (∀ W, Below w.heap.size w W → Calls Tryz.prog 22 #[prgV ca n cc wa words.length wc lk rg] W fun e w' => ∃ mb wv ov, e = .returned (.pointer (some ⟨mb, 0, none⟩)) ∧ Mem0 W w' mb wv ov words lk) := fun W hb => newPlain_any W ca n cc wa wc lk rg words (hw.below hb) hnil hc.m64 hc.lk4
  have HOUT : Hid (∀ W w' mb wv ov, Below w.heap.size w W → Mem0 W w' mb wv ov words lk → Calls Tryz.prog 63 #[prgV ca n cc wa words.length wc lk rg, .iface 61 (.pointer (some ⟨mb, 0, none⟩))] w' (OutQ w' L X 0 (beginX n words lk rg))) := fun W w' mb wv ov hb hm => by
    have hb2 : Below w.heap.size w w' := hb.trans (hm.below.mono hb.size)
    exact outcomes_any W w' ⟨A, L, C, plainK, 0, n⟩ _ _ ca n cc wa wc lk rg mb (m0V mb wv ov) words X plain_kind rfl hn0 hc hfit hwf (hp.below hb2) (htab.up hb2) (hm.q rfl)
  obtain ⟨s0, hs0⟩ : ∃ s0, beginX n words lk rg = s0 := ⟨_, rfl⟩
  rw [hs0] at HOUT ⊢
  obtain ⟨wl, hwl⟩ : ∃ k, words.length = k := ⟨_, rfl⟩
  rw [hwl] at HCHK HNEW HOUT ⊢
  clear HR hp hc hn0 hw hnil hfit hwf htab hs0 hwl
  obtain ⟨PB, hPB⟩ : ∃ o : Obj, o = .cells #[.slice ca n cc, .slice wa wl wc, .int .i64 (lk : Int), .int .i64 (rg : Int)] 25 := ⟨_, rfl⟩
  obtain ⟨W0, hW0⟩ : ∃ V, V = (w.alloc PB).alloc (.cells #[.int .i64 0, .int .i64 0, .int .i64 0] 30) := ⟨_, rfl⟩
  have hz0 : W0.heap.size = w.heap.size + 1 + 1 := by rw [hW0]; simp
  have hb0 : Below w.heap.size w W0 := by rw [hW0]; exact ((Below.refl _ _).alloc (Nat.le_refl _) _).alloc (by simp) _
  have hp0 : W0.heap[w.heap.size]? = some PB := by rw [hW0]; exact box_later (heap_alloc_new _ _) _
  have hf0 : W0.heap[w.heap.size + 1]? = some (.cells #[.int .i64 0, .int .i64 0, .int .i64 0] 30) := by
    have := heap_alloc_new (w.alloc PB) (.cells #[.int .i64 0, .int .i64 0, .int .i64 0] 30)
    rw [World.size_alloc] at this
    rw [hW0]; exact this
  have HW0 : Hid ((w.alloc (.cells #[.slice ca n cc, .slice wa wl wc, .int .i64 (lk : Int), .int .i64 (rg : Int)] 25)).alloc (.cells #[.int .i64 0, .int .i64 0, .int .i64 0] 30) = W0) := by rw [hW0, hPB]; exact rfl
  have HAT : Hid (∀ V, Below W0.heap.size W0 V → (V.cell? ⟨w.heap.size, 0, none⟩ = some (.slice ca n cc) ∧ V.cell? ⟨w.heap.size, 1, none⟩ = some (.slice wa wl wc) ∧ V.cell? ⟨w.heap.size, 2, none⟩ = some (.int .i64 (lk : Int)) ∧ V.cell? ⟨w.heap.size, 3, none⟩ = some (.int .i64 (rg : Int))) ∧ (V.cell? ⟨w.heap.size + 1, 0, none⟩ = some (.int .i64 0) ∧ V.cell? ⟨w.heap.size + 1, 1, none⟩ = some (.int .i64 0) ∧ V.cell? ⟨w.heap.size + 1, 2, none⟩ = some (.int .i64 0)) ∧ ∀ i, V.frozen? ⟨w.heap.size + 1, i, none⟩ = false) := fun V hb => by
    have e1 := (hb.block w.heap.size (by omega)).trans hp0
    have e2 := (hb.block (w.heap.size + 1) (by omega)).trans hf0
    rw [hPB] at e1
    exact ⟨⟨box_cell e1 rfl, box_cell e1 rfl, box_cell e1 rfl, box_cell e1 rfl⟩, ⟨box_cell e2 rfl, box_cell e2 rfl, box_cell e2 rfl⟩, fun i => box_free e2⟩
  have HFIN : Hid (∀ V w3 e w4 x y z, Below W0.heap.size W0 V → Below V.heap.size V w3 → OutQ w3 L X 0 s0 e w4 → OutQ w L X 0 s0 e (((w4.setCell ⟨w.heap.size + 1, 0, none⟩ x).setCell ⟨w.heap.size + 1, 1, none⟩ y).setCell ⟨w.heap.size + 1, 2, none⟩ z)) := fun V w3 e w4 x y z h1 h2 h3 => by
    have hb3 : Below W0.heap.size W0 w3 := h1.trans (h2.mono h1.size)
    have hsz := hb3.size
    have hb4 : Below w3.heap.size w3 w4 := h3.form.2
    have hbw : Below w.heap.size w w4 := hb0.trans ((hb3.trans (hb4.mono hsz)).mono hb0.size)
    refine h3.move (by omega) (fun j hj => ?_) (((hbw.setCell (by show w.heap.size ≤ w.heap.size + 1; omega) _).setCell (by show w.heap.size ≤ w.heap.size + 1; omega) _).setCell (by show w.heap.size ≤ w.heap.size + 1; omega) _)
    have hne : j ≠ w.heap.size + 1 := by omega
    rw [Below.heap_setCell _ _ _ _ hne, Below.heap_setCell _ _ _ _ hne, Below.heap_setCell _ _ _ _ hne]
  have HB0 := Hid.out (p := Hid _) hb0
  clear hPB hW0 hp0 hf0 hb0
  go_enter Tryz.func26, Tryz.ntmps26
  go_wp2_with fail
  rw [HW0.out]
  refine Calls.mono (HCHK.out _ HB0.out) ?_
  rintro e w1 ⟨rfl, hb1⟩
  obtain ⟨⟨p0, p1, p2, p3⟩, ⟨f0, f1, f2⟩, ff⟩ := HAT.out w1 hb1
  have HB1 := Hid.out (p := Hid _) hb1
  clear HCHK HW0 hb1
  go_wp2_with fail
  obtain ⟨V, hV⟩ : ∃ V, w1.alloc (.cells #[.int .i64 0, .int .i64 0, .int .i64 0] 30) = V := ⟨_, rfl⟩
  rw [hV]
  have hbV : Below W0.heap.size W0 V := by rw [← hV]; exact HB1.out.alloc HB1.out.size _
  have HBV := Hid.out (p := Hid _) hbV
  have HWV : Hid (Below w.heap.size w V) := HB0.out.trans (hbV.mono HB0.out.size)
  clear p0 p1 p2 p3 f0 f1 f2 ff HB1 hV
  obtain ⟨⟨p0, p1, p2, p3⟩, _, _⟩ := HAT.out V hbV
  clear hbV
  go_region_with (first | (go_at_call 22; refine Calls.mono (HNEW.out _ HWV.out.drew) ?_; rintro e w3 ⟨mb, wv, ov, rfl, hm⟩; have hb3 : Below W0.heap.size W0 w3 := HBV.out.drew.trans (hm.below.mono HBV.out.size); obtain ⟨⟨q0, q1, q2, q3⟩, _, _⟩ := HAT.out w3 hb3; have HB3 := Hid.out (p := Hid _) hb3; have HM := Hid.out (p := Hid _) hm; clear hm hb3) | (go_at_call 63; refine Calls.mono (HOUT.out _ w3 mb wv ov HWV.out.drew HM.out) ?_; intro e w4 h4; have hfin := fun x y z => HFIN.out _ _ e w4 x y z HBV.out.drew HM.out.below h4; have HQ := Hid.out (p := Hid _) hfin; clear hfin; obtain ⟨⟨a4, l4, c4, z4, rfl⟩, hb4⟩ := h4.form; clear h4; obtain ⟨_, ⟨f0, f1, f2⟩, ff⟩ := HAT.out w4 (HB3.out.trans (hb4.mono HB3.out.size)); clear hb4))
  all_goals go_wp2_with fail
  all_goals exact bodyPost_ret (v := .tuple #[.slice a4 l4 c4, ints3 z4 0 0]) (by simp [results, Tryz.results26, go_sem, cell_set, f0, f1, f2]) rfl (HQ.out _ _ _)

set_option maxRecDepth 100000 in
set_option maxHeartbeats 3200000 in
/-- TSO of a program that passed Check. -/
theorem tso_yes (w : World) (ca : Option Addr) (n cc : Nat) (wa : Option Addr) (wc lk rg : Nat) (words : List Int) (A : Nat → Option Addr) (L C : Nat → Nat) (X : Nat → Nat → Nat → Int) (HR : Hid (chk n L X words.length lk rg = (0, 0, 0))) (hp : PIn w ca n A L C X) (hc : COk n L X words.length lk rg) (hn0 : 0 < n) (hw : SIs w wa words) (hnil : wa = none → words = [] ∧ wc = 0) (hfit : ∀ t i, t < n → i < L t → I64n (X t i 2)) (hwf : ∀ x, x ∈ words → I64n x) (htab : TabB w.heap.size w) :
    Calls Tryz.prog 27 #[prgV ca n cc wa words.length wc lk rg] w (OutQ w L X 1 (beginX n words lk rg)) := by
  have HCHK : Hid (∀ W, Below w.heap.size w W → Calls Tryz.prog 15 #[prgV ca n cc wa words.length wc lk rg] W fun e w' => e = .returned (ints3 0 0 0) ∧ Below W.heap.size W w') := fun W hb => check_any ca n cc wa words.length wc lk rg A L C X 0 0 0 HR W (hp.below hb)
  have HNEW : Hid (∀ W, Below w.heap.size w W → Calls Tryz.prog 64 #[prgV ca n cc wa words.length wc lk rg] W fun e w' => ∃ bb mb v, e = .returned (.pointer (some ⟨bb, 0, none⟩)) ∧ MemQ ⟨A, L, C, bufK, bb, n⟩ W w' mb v words lk) := fun W hb => (newBuffered_any W ca n cc wa wc lk rg words (hw.below hb) hnil hc.m64 hc.lk4 hc.n4).mono fun e w' ⟨bb, mb, v, h1, h2⟩ => ⟨bb, mb, v, h1, h2 A L C⟩
  have HOUT : Hid (∀ W w' bb mb v, Below w.heap.size w W → MemQ ⟨A, L, C, bufK, bb, n⟩ W w' mb v words lk → Calls Tryz.prog 63 #[prgV ca n cc wa words.length wc lk rg, .iface 134 (.pointer (some ⟨bb, 0, none⟩))] w' (OutQ w' L X 1 (beginX n words lk rg))) := fun W w' bb mb v hb hm => by
    have hb2 : Below w.heap.size w w' := hb.trans (hm.below.mono hb.size)
    exact outcomes_any W w' ⟨A, L, C, bufK, bb, n⟩ _ _ ca n cc wa wc lk rg mb v words X buf_kind rfl hn0 hc hfit hwf (hp.below hb2) (htab.up hb2) hm
  obtain ⟨s0, hs0⟩ : ∃ s0, beginX n words lk rg = s0 := ⟨_, rfl⟩
  rw [hs0] at HOUT ⊢
  obtain ⟨wl, hwl⟩ : ∃ k, words.length = k := ⟨_, rfl⟩
  rw [hwl] at HCHK HNEW HOUT ⊢
  clear HR hp hc hn0 hw hnil hfit hwf htab hs0 hwl
  obtain ⟨PB, hPB⟩ : ∃ o : Obj, o = .cells #[.slice ca n cc, .slice wa wl wc, .int .i64 (lk : Int), .int .i64 (rg : Int)] 25 := ⟨_, rfl⟩
  obtain ⟨W0, hW0⟩ : ∃ V, V = (w.alloc PB).alloc (.cells #[.int .i64 0, .int .i64 0, .int .i64 0] 30) := ⟨_, rfl⟩
  have hz0 : W0.heap.size = w.heap.size + 1 + 1 := by rw [hW0]; simp
  have hb0 : Below w.heap.size w W0 := by rw [hW0]; exact ((Below.refl _ _).alloc (Nat.le_refl _) _).alloc (by simp) _
  have hp0 : W0.heap[w.heap.size]? = some PB := by rw [hW0]; exact box_later (heap_alloc_new _ _) _
  have hf0 : W0.heap[w.heap.size + 1]? = some (.cells #[.int .i64 0, .int .i64 0, .int .i64 0] 30) := by
    have := heap_alloc_new (w.alloc PB) (.cells #[.int .i64 0, .int .i64 0, .int .i64 0] 30)
    rw [World.size_alloc] at this
    rw [hW0]; exact this
  have HW0 : Hid ((w.alloc (.cells #[.slice ca n cc, .slice wa wl wc, .int .i64 (lk : Int), .int .i64 (rg : Int)] 25)).alloc (.cells #[.int .i64 0, .int .i64 0, .int .i64 0] 30) = W0) := by rw [hW0, hPB]; exact rfl
  have HAT : Hid (∀ V, Below W0.heap.size W0 V → (V.cell? ⟨w.heap.size, 0, none⟩ = some (.slice ca n cc) ∧ V.cell? ⟨w.heap.size, 1, none⟩ = some (.slice wa wl wc) ∧ V.cell? ⟨w.heap.size, 2, none⟩ = some (.int .i64 (lk : Int)) ∧ V.cell? ⟨w.heap.size, 3, none⟩ = some (.int .i64 (rg : Int))) ∧ (V.cell? ⟨w.heap.size + 1, 0, none⟩ = some (.int .i64 0) ∧ V.cell? ⟨w.heap.size + 1, 1, none⟩ = some (.int .i64 0) ∧ V.cell? ⟨w.heap.size + 1, 2, none⟩ = some (.int .i64 0)) ∧ ∀ i, V.frozen? ⟨w.heap.size + 1, i, none⟩ = false) := fun V hb => by
    have e1 := (hb.block w.heap.size (by omega)).trans hp0
    have e2 := (hb.block (w.heap.size + 1) (by omega)).trans hf0
    rw [hPB] at e1
    exact ⟨⟨box_cell e1 rfl, box_cell e1 rfl, box_cell e1 rfl, box_cell e1 rfl⟩, ⟨box_cell e2 rfl, box_cell e2 rfl, box_cell e2 rfl⟩, fun i => box_free e2⟩
  have HFIN : Hid (∀ V w3 e w4 x y z, Below W0.heap.size W0 V → Below V.heap.size V w3 → OutQ w3 L X 1 s0 e w4 → OutQ w L X 1 s0 e (((w4.setCell ⟨w.heap.size + 1, 0, none⟩ x).setCell ⟨w.heap.size + 1, 1, none⟩ y).setCell ⟨w.heap.size + 1, 2, none⟩ z)) := fun V w3 e w4 x y z h1 h2 h3 => by
    have hb3 : Below W0.heap.size W0 w3 := h1.trans (h2.mono h1.size)
    have hsz := hb3.size
    have hb4 : Below w3.heap.size w3 w4 := h3.form.2
    have hbw : Below w.heap.size w w4 := hb0.trans ((hb3.trans (hb4.mono hsz)).mono hb0.size)
    refine h3.move (by omega) (fun j hj => ?_) (((hbw.setCell (by show w.heap.size ≤ w.heap.size + 1; omega) _).setCell (by show w.heap.size ≤ w.heap.size + 1; omega) _).setCell (by show w.heap.size ≤ w.heap.size + 1; omega) _)
    have hne : j ≠ w.heap.size + 1 := by omega
    rw [Below.heap_setCell _ _ _ _ hne, Below.heap_setCell _ _ _ _ hne, Below.heap_setCell _ _ _ _ hne]
  have HB0 := Hid.out (p := Hid _) hb0
  clear hPB hW0 hp0 hf0 hb0
  go_enter Tryz.func27, Tryz.ntmps27
  go_wp2_with fail
  rw [HW0.out]
  refine Calls.mono (HCHK.out _ HB0.out) ?_
  rintro e w1 ⟨rfl, hb1⟩
  obtain ⟨⟨p0, p1, p2, p3⟩, ⟨f0, f1, f2⟩, ff⟩ := HAT.out w1 hb1
  have HB1 := Hid.out (p := Hid _) hb1
  clear HCHK HW0 hb1
  go_wp2_with fail
  obtain ⟨V, hV⟩ : ∃ V, w1.alloc (.cells #[.int .i64 0, .int .i64 0, .int .i64 0] 30) = V := ⟨_, rfl⟩
  rw [hV]
  have hbV : Below W0.heap.size W0 V := by rw [← hV]; exact HB1.out.alloc HB1.out.size _
  have HBV := Hid.out (p := Hid _) hbV
  have HWV : Hid (Below w.heap.size w V) := HB0.out.trans (hbV.mono HB0.out.size)
  clear p0 p1 p2 p3 f0 f1 f2 ff HB1 hV
  obtain ⟨⟨p0, p1, p2, p3⟩, _, _⟩ := HAT.out V hbV
  clear hbV
  go_region_with (first | (go_at_call 64; refine Calls.mono (HNEW.out _ HWV.out.drew) ?_; rintro e w3 ⟨bb, mb, v, rfl, hm⟩; have hb3 : Below W0.heap.size W0 w3 := HBV.out.drew.trans (hm.below.mono HBV.out.size); obtain ⟨⟨q0, q1, q2, q3⟩, _, _⟩ := HAT.out w3 hb3; have HB3 := Hid.out (p := Hid _) hb3; have HM := Hid.out (p := Hid _) hm; clear hm hb3) | (go_at_call 63; refine Calls.mono (HOUT.out _ w3 bb mb v HWV.out.drew HM.out) ?_; intro e w4 h4; have hfin := fun x y z => HFIN.out _ _ e w4 x y z HBV.out.drew HM.out.below h4; have HQ := Hid.out (p := Hid _) hfin; clear hfin; obtain ⟨⟨a4, l4, c4, z4, rfl⟩, hb4⟩ := h4.form; clear h4; obtain ⟨_, ⟨f0, f1, f2⟩, ff⟩ := HAT.out w4 (HB3.out.trans (hb4.mono HB3.out.size)); clear hb4))
  all_goals go_wp2_with fail
  all_goals exact bodyPost_ret (v := .tuple #[.slice a4 l4 c4, ints3 z4 0 0]) (by simp [results, Tryz.results27, go_sem, cell_set, f0, f1, f2]) rfl (HQ.out _ _ _)

set_option maxRecDepth 100000 in
set_option maxHeartbeats 1600000 in
/-- SC of a program that Check does not let pass. -/
theorem sc_no (w : World) (ca : Option Addr) (n cc : Nat) (wa : Option Addr) (m wc : Nat) (lk rg : Int) (A : Nat → Option Addr) (L C : Nat → Nat) (X : Nat → Nat → Nat → Int) (x y z : Int) (HR : Hid (chk n L X m lk rg = (x, y, z))) (hx : (x != 0) = true) (hp : PIn w ca n A L C X) :
    Calls Tryz.prog 26 #[prgV ca n cc wa m wc lk rg] w fun e w' => e = .returned (.tuple #[nilV, ints3 x y z]) ∧ Below w.heap.size w w' := by
  have HCHK : Hid (∀ W, Below w.heap.size w W → Calls Tryz.prog 15 #[prgV ca n cc wa m wc lk rg] W fun e w' => e = .returned (ints3 x y z) ∧ Below W.heap.size W w') := fun W hb => check_any ca n cc wa m wc lk rg A L C X x y z HR W (hp.below hb)
  clear HR hp
  go_enter Tryz.func26, Tryz.ntmps26
  go_wp2_with fail
  refine Calls.mono (HCHK.out _ (((Below.refl _ _).alloc (Nat.le_refl _) _).alloc (by simp) _)) ?_
  rintro e w1 ⟨rfl, hb1⟩
  have hs1 := hb1.size
  simp only [World.size_alloc] at hs1
  have HB1 : Below w.heap.size w w1 := (((Below.refl _ _).alloc (Nat.le_refl _) _).alloc (by simp) _).trans (hb1.mono (by simp; omega))
  have hF : w1.heap[w.heap.size + 1]? = some (.cells #[.int .i64 0, .int .i64 0, .int .i64 0] 30) := by
    refine (hb1.block _ (by simp)).trans ?_
    have := heap_alloc_new (w.alloc (.cells #[.slice ca n cc, .slice wa m wc, .int .i64 lk, .int .i64 rg] 25)) (.cells #[.int .i64 0, .int .i64 0, .int .i64 0] 30)
    rwa [World.size_alloc] at this
  have u0 : ∀ o, (w1.alloc o).cell? ⟨w.heap.size + 1, 0, none⟩ = some (.int .i64 0) := fun o => box_cell (box_later hF o) rfl
  have u1 : ∀ o, (w1.alloc o).cell? ⟨w.heap.size + 1, 1, none⟩ = some (.int .i64 0) := fun o => box_cell (box_later hF o) rfl
  have u2 : ∀ o, (w1.alloc o).cell? ⟨w.heap.size + 1, 2, none⟩ = some (.int .i64 0) := fun o => box_cell (box_later hF o) rfl
  have uf : ∀ o i, (w1.alloc o).frozen? ⟨w.heap.size + 1, i, none⟩ = false := fun o i => box_free (box_later hF o)
  have n1 : w1.heap.size ≠ w.heap.size + 1 := by omega
  have n3 : w.heap.size + 1 ≠ w1.heap.size := by omega
  have hB : Below w.heap.size w (w1.alloc (.cells #[.int .i64 x, .int .i64 y, .int .i64 z] 30)) := HB1.alloc HB1.size _
  have HBB := Hid.out (p := Hid _) hB
  clear hb1 hF HCHK HB1 hB
  go_wp2_with fail
  go_region
  all_goals go_wp2
  all_goals refine bodyPost_ret (v := .tuple #[nilV, ints3 x y z]) (by simp [results, Tryz.results26, go_sem, cell_set, u0, u1, u2]) rfl ⟨rfl, ?_⟩
  all_goals exact ((HBB.out.drew.setCell (Nat.le_succ _) _).setCell (Nat.le_succ _) _).setCell (Nat.le_succ _) _

end Go.Proofs.YtgofbkgfonlceacGreatDoor
