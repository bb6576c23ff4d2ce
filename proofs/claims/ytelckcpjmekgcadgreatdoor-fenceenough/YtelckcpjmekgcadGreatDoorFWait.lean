/-
  Outcomes of the program with fences behind some places, by the program.
  The fewest fences, by the program: where it stops early.
-/
import Derived.Test.YtelckcpjmekgcadGreatDoorOcRob
import Derived.Test.YtelckcpjmekgcadGreatDoorSlCat
import Derived.Test.YtelckcpjmekgcadGreatDoorOcOut
import Derived.Test.YtelckcpjmekgcadGreatDoorFPut
namespace Go.Proofs.YtelckcpjmekgcadGreatDoor
section
open Go.RowKit Go.Sort Go.Shelf

set_option maxRecDepth 100000 in
set_option maxHeartbeats 1600000 in
/-- Is there to be a fence? -/
theorem wait1_any (w : World) (pb : Nat) (sa : Option Addr) (sc : Nat) (S : List Pl) (t i : Nat) (hb : w.cell? ⟨pb, 0, none⟩ = some (.slice sa S.length sc)) (hS : PlIn w sa S) (hl : S.length ≤ 100) :
    Calls Tryz.prog 30 #[.agg #[.int .i64 (t : Int), .int .i64 (i : Int)], .pointer (some ⟨pb, 0, none⟩)] w fun e w' => e = .returned (.bool (setB S t i)) ∧ Below w.heap.size w w' := by
  have HC : Hid (∀ V, Below w.heap.size w V → Calls Tryz.prog 31 #[.slice sa S.length sc, .agg #[.int .i64 (t : Int), .int .i64 (i : Int)]] V fun e w' => e = .returned (.bool (setB S t i)) ∧ Below V.heap.size V w') := fun V hV => pcontains_any V sa sc S t i (hS.below hV) hl
  obtain ⟨r, hr⟩ : ∃ r, setB S t i = r := ⟨_, rfl⟩
  obtain ⟨n, hn⟩ : ∃ n, S.length = n := ⟨_, rfl⟩
  rw [hr, hn] at HC
  rw [hn] at hb
  rw [hr]
  have hu := fun o => cell_up hb o
  have HB1 : Hid (∀ o, Below w.heap.size w (w.alloc o)) := fun o => (Below.refl _ _).alloc (Nat.le_refl _) _
  clear hS hl hr hn
  go_enter Tryz.func30, Tryz.ntmps30
  go_wp2_with fail
  refine Calls.mono (HC.out _ (HB1.out _)) ?_
  rintro e w1 ⟨rfl, hb1⟩
  have H1 : Hid (Below w.heap.size w w1) := (HB1.out _).trans (hb1.mono (by simp))
  clear hb1
  go_wp2
  go_ret
  exact ⟨rfl, H1.out⟩
set_option maxRecDepth 100000 in
set_option maxHeartbeats 3200000 in
theorem waitW_any (w : World) (ca : Option Addr) (n cc : Nat) (wa : Option Addr) (wc lk rg : Nat) (words : List Int) (A : Nat → Option Addr) (L C : Nat → Nat) (X : Nat → Nat → Nat → Int) (sa : Option Addr) (sc : Nat) (S : List Pl) (hp : PIn w ca n A L C X) (hc : COk n L X words.length lk rg) (h4 : ∀ t, t < n → L t ≤ 400) (hn0 : 0 < n) (hw : SIs w wa words) (hnil : wa = none → words = [] ∧ wc = 0) (hfit : ∀ t i, t < n → i < L t → I64n (X t i 2)) (hwf : ∀ x, x ∈ words → I64n x) (htab : TabB w.heap.size w) (hS : PlIn w sa S) (hSl : S.length ≤ 100) :
    Calls Tryz.prog 15 #[prgV ca n cc wa words.length wc lk rg, .slice sa S.length sc] w (OutQ w (lenR (bSet X S) L) (numR (bSet X S) L) 1 (beginX n words lk rg)) := by
  obtain ⟨PB, hPB⟩ : ∃ o : Obj, o = .cells #[.slice ca n cc, .slice wa words.length wc, .int .i64 (lk : Int), .int .i64 (rg : Int)] 25 := ⟨_, rfl⟩
  obtain ⟨SB, hSB⟩ : ∃ o : Obj, o = .cells #[.slice sa S.length sc] 26 := ⟨_, rfl⟩
  obtain ⟨FB, hFB⟩ : ∃ o : Obj, o = .cells #[.int .i64 0, .int .i64 0, .int .i64 0] 29 := ⟨_, rfl⟩
  obtain ⟨W0, hW0⟩ : ∃ V, ((w.alloc PB).alloc SB).alloc FB = V := ⟨_, rfl⟩
  have hz0 : W0.heap.size = w.heap.size + 1 + 1 + 1 := by rw [← hW0]; simp
  have hb0 : Below w.heap.size w W0 := by rw [← hW0]; exact (((Below.refl _ _).alloc (Nat.le_refl _) _).alloc (by simp) _).alloc (by simp; omega) _
  have hp0 : W0.heap[w.heap.size]? = some PB := by rw [← hW0]; exact box_later (box_later (heap_alloc_new _ _) _) _
  have hs0 : W0.heap[w.heap.size + 1]? = some SB := by rw [← hW0]; have := box_later (heap_alloc_new (w.alloc PB) SB) FB; simpa using this
  have hf0 : W0.heap[w.heap.size + 1 + 1]? = some FB := by rw [← hW0]; have := heap_alloc_new ((w.alloc PB).alloc SB) FB; simpa using this
  have hcq := set_cok hc h4 S
  have hlq : ∀ t, t < n → lenR (bSet X S) L t ≤ 1000 := hcq.L4
  have HPUT : Hid (Calls Tryz.prog 18 #[prgV ca n cc wa words.length wc lk rg, .func (.func 30) #[] #[.pointer (some ⟨w.heap.size + 1, 0, none⟩)]] W0 (NewQ W0 n words lk rg (bSet X S) L)) := by
    refine fput_any W0 ca n cc wa words wc lk rg 30 #[.pointer (some ⟨w.heap.size + 1, 0, none⟩)] A L C X (setB S) (hw.below hb0) hnil hc (hp.below hb0) (fun xs w => by kernel_rfl) (fun V t i hV ht hi => ?_)
    have e1 := (hV.block (w.heap.size + 1) (by omega)).trans hs0
    rw [hSB] at e1
    exact wait1_any V (w.heap.size + 1) sa sc S t i (box_cell e1 rfl) (hS.below (hb0.trans (hV.mono hb0.size))) hSl
  have HNEW : Hid (∀ V U va vc ua uc, Below w.heap.size w V → NewQ W0 n words lk rg (bSet X S) L (.returned (.agg #[.slice va n vc, .slice ua words.length uc, .int .i64 lk, .int .i64 rg])) U → Below U.heap.size U V → Calls Tryz.prog 32 #[.agg #[.slice va n vc, .slice ua words.length uc, .int .i64 lk, .int .i64 rg]] V fun e w' => ∃ bb mb v, e = .returned (.pointer (some ⟨bb, 0, none⟩)) ∧ ∀ A C, MemQ ⟨A, lenR (bSet X S) L, C, bufK, bb, n⟩ V w' mb v words lk) := fun V U va vc ua uc hV hN hU => by
    obtain ⟨_, h2, h3⟩ := new_open hN hU hc.n4 hlq
    exact (newBuffered_any V va n vc ua uc lk rg words h2 h3 hc.m64 hc.lk4 hc.n4).mono fun e w' ⟨bb, mb, v, g1, g2⟩ => ⟨bb, mb, v, g1, fun A C => g2 A _ C⟩
  have HOUT : Hid (∀ V U va vc ua uc w' bb mb v, Below w.heap.size w V → NewQ W0 n words lk rg (bSet X S) L (.returned (.agg #[.slice va n vc, .slice ua words.length uc, .int .i64 lk, .int .i64 rg])) U → Below U.heap.size U V → (∀ A C, MemQ ⟨A, lenR (bSet X S) L, C, bufK, bb, n⟩ V w' mb v words lk) → Calls Tryz.prog 26 #[.agg #[.slice va n vc, .slice ua words.length uc, .int .i64 lk, .int .i64 rg], .iface 69 (.pointer (some ⟨bb, 0, none⟩))] w' (OutQ w' (lenR (bSet X S) L) (numR (bSet X S) L) 1 (beginX n words lk rg))) := fun V U va vc ua uc w' bb mb v hV hN hU hm => by
    have hbm := (hm (fun _ => none) L).below
    have hb2 : Below w.heap.size w w' := hV.trans (hbm.mono hV.size)
    obtain ⟨⟨A', C', h1⟩, _, _⟩ := new_open hN (hU.trans (hbm.mono hU.size)) hc.n4 hlq
    exact outcomes_any V w' ⟨A', lenR (bSet X S) L, C', bufK, bb, n⟩ _ _ va n vc ua uc lk rg mb v words (numR (bSet X S) L) buf_kind rfl hn0 hcq (new_fit hc (bSet X S) (fun t i _ _ x hx => bSet_in X S t i x hx) hfit hlq) hwf h1 (htab.up hb2) (hm A' C')
  obtain ⟨q0, hq0⟩ : ∃ s0, beginX n words lk rg = s0 := ⟨_, rfl⟩
  rw [hq0] at HOUT ⊢
  obtain ⟨L', hL'⟩ : ∃ f, lenR (bSet X S) L = f := ⟨_, rfl⟩
  obtain ⟨X', hX'⟩ : ∃ f, numR (bSet X S) L = f := ⟨_, rfl⟩
  rw [hL'] at HNEW
  rw [hL', hX'] at HOUT ⊢
  obtain ⟨wl, hwl⟩ : ∃ k, words.length = k := ⟨_, rfl⟩
  obtain ⟨sl, hsl⟩ : ∃ k, S.length = k := ⟨_, rfl⟩
  have HWL : Hid (words.length = wl) := hwl
  have HF0 : Hid (∀ V, Below W0.heap.size W0 V → V.heap[w.heap.size + 1 + 1]? = some (.cells #[.int .i64 0, .int .i64 0, .int .i64 0] 29)) := fun V hV => by
    rw [← hFB]
    exact (hV.block _ (by omega)).trans hf0
  have HW0 : Hid (((w.alloc (.cells #[.slice ca n cc, .slice wa wl wc, .int .i64 (lk : Int), .int .i64 (rg : Int)] 25)).alloc (.cells #[.slice sa sl sc] 26)).alloc (.cells #[.int .i64 0, .int .i64 0, .int .i64 0] 29) = W0) := by rw [← hW0, hPB, hSB, hFB, hwl, hsl]; exact rfl
  have HB0 := Hid.out (p := Hid _) hb0
  rw [hPB, hwl] at hp0
  have p0 := box_cell (i := 0) hp0 rfl
  have p1 := box_cell (i := 1) hp0 rfl
  have p2 := box_cell (i := 2) hp0 rfl
  have p3 := box_cell (i := 3) hp0 rfl
  rw [hwl] at HNEW HOUT HPUT ⊢
  rw [hsl]
  have HFIN : Hid (∀ V w4 e x y z, Below W0.heap.size W0 V → OutQ V L' X' 1 q0 e w4 → OutQ w L' X' 1 q0 e (((w4.setCell ⟨w.heap.size + 1 + 1, 0, none⟩ x).setCell ⟨w.heap.size + 1 + 1, 1, none⟩ y).setCell ⟨w.heap.size + 1 + 1, 2, none⟩ z)) := fun V w4 e x y z h1 h3 => by
    have hsz := h1.size
    have hb4 : Below V.heap.size V w4 := h3.form.2
    have hbw : Below w.heap.size w w4 := hb0.trans ((h1.trans (hb4.mono hsz)).mono hb0.size)
    refine h3.move (by omega) (fun j hj => ?_) (((hbw.setCell (by show w.heap.size ≤ w.heap.size + 1 + 1; omega) _).setCell (by show w.heap.size ≤ w.heap.size + 1 + 1; omega) _).setCell (by show w.heap.size ≤ w.heap.size + 1 + 1; omega) _)
    have hne : j ≠ w.heap.size + 1 + 1 := by omega
    rw [Below.heap_setCell _ _ _ _ hne, Below.heap_setCell _ _ _ _ hne, Below.heap_setCell _ _ _ _ hne]
  clear hPB hSB hFB hW0 hb0 hp0 hs0 hf0 hcq hlq hp hc h4 hn0 hw hnil hfit hwf htab hS hSl hq0 hL' hX' hwl hsl
  go_enter Tryz.func15, Tryz.ntmps15
  go_wp2_with fail
  rw [HW0.out]
  go_wp2_with fail
  refine Calls.mono HPUT.out ?_
  intro e w1 hN1
  obtain ⟨va, vc, ua, uc, tv, he, hN2⟩ := hN1
  have hN1 : NewQ W0 n words lk rg (bSet X S) L e w1 := ⟨va, vc, ua, uc, tv, he, hN2⟩
  rw [HWL.out] at he
  subst he
  have hb1 : Below W0.heap.size W0 w1 := hN2.2.2.2
  have HN1 := Hid.out (p := Hid _) (And.intro hN1 hb1)
  clear hN1 hN2 hb1 HPUT p0 p1 p2 p3
  go_wp2_with fail
  obtain ⟨V, hV⟩ : ∃ V, w1.alloc (.cells #[.slice va n vc, .slice ua wl uc, .int .i64 (lk : Int), .int .i64 (rg : Int)] 25) = V := ⟨_, rfl⟩
  rw [hV]
  have hbV : Below w1.heap.size w1 V := by rw [← hV]; exact (Below.refl _ _).alloc (Nat.le_refl _) _
  have hvV : V.heap[w1.heap.size]? = some (.cells #[.slice va n vc, .slice ua wl uc, .int .i64 (lk : Int), .int .i64 (rg : Int)] 25) := by rw [← hV]; exact heap_alloc_new _ _
  have h0V : Below W0.heap.size W0 V := HN1.out.2.trans (hbV.mono HN1.out.2.size)
  have hwV : Below w.heap.size w V := HB0.out.trans (h0V.mono HB0.out.size)
  have HAT : Hid (∀ U, Below V.heap.size V U → (U.cell? ⟨w1.heap.size, 0, none⟩ = some (.slice va n vc) ∧ U.cell? ⟨w1.heap.size, 1, none⟩ = some (.slice ua wl uc) ∧ U.cell? ⟨w1.heap.size, 2, none⟩ = some (.int .i64 (lk : Int)) ∧ U.cell? ⟨w1.heap.size, 3, none⟩ = some (.int .i64 (rg : Int))) ∧ (U.cell? ⟨w.heap.size + 1 + 1, 0, none⟩ = some (.int .i64 0) ∧ U.cell? ⟨w.heap.size + 1 + 1, 1, none⟩ = some (.int .i64 0) ∧ U.cell? ⟨w.heap.size + 1 + 1, 2, none⟩ = some (.int .i64 0)) ∧ ∀ i, U.frozen? ⟨w.heap.size + 1 + 1, i, none⟩ = false) := fun U hU => by
    have e1 := (hU.block w1.heap.size (box_lt hvV)).trans hvV
    have e2 := HF0.out U (h0V.trans (hU.mono h0V.size))
    exact ⟨⟨box_cell e1 rfl, box_cell e1 rfl, box_cell e1 rfl, box_cell e1 rfl⟩, ⟨box_cell e2 rfl, box_cell e2 rfl, box_cell e2 rfl⟩, fun i => box_free e2⟩
  have HNEW2 : Hid (Calls Tryz.prog 32 #[.agg #[.slice va n vc, .slice ua wl uc, .int .i64 lk, .int .i64 rg]] V.drew fun e w' => ∃ bb mb v, e = .returned (.pointer (some ⟨bb, 0, none⟩)) ∧ ∀ A C, MemQ ⟨A, L', C, bufK, bb, n⟩ V.drew w' mb v words lk) := HNEW.out V.drew w1 va vc ua uc hwV.drew HN1.out.1 hbV.drew
  have HOUT2 : Hid (∀ w' bb mb v, (∀ A C, MemQ ⟨A, L', C, bufK, bb, n⟩ V.drew w' mb v words lk) → Calls Tryz.prog 26 #[.agg #[.slice va n vc, .slice ua wl uc, .int .i64 lk, .int .i64 rg], .iface 69 (.pointer (some ⟨bb, 0, none⟩))] w' (OutQ w' L' X' 1 q0)) := fun w' bb mb v hm => HOUT.out V.drew w1 va vc ua uc w' bb mb v hwV.drew HN1.out.1 hbV.drew hm
  have H0V := Hid.out (p := Hid _) h0V
  obtain ⟨⟨p0, p1, p2, p3⟩, _, _⟩ := HAT.out V (Below.refl _ _)
  clear HNEW HOUT hV hbV hvV h0V hwV HN1
  go_region_with (first | (go_at_call 32; refine Calls.mono HNEW2.out ?_; rintro e w3 ⟨bb, mb, v, rfl, hm⟩; have hb3 : Below V.heap.size V w3 := (Below.refl _ _).drew.trans (hm (fun _ => none) L').below; obtain ⟨⟨q0', q1', q2', q3'⟩, _, _⟩ := HAT.out w3 hb3; have HB3 := Hid.out (p := Hid _) hb3; have HM := Hid.out (p := Hid _) hm; clear hm hb3) | (go_at_call 26; refine Calls.mono (HOUT2.out w3 bb mb v HM.out) ?_; intro e w4 h4; have hfin := fun x y z => HFIN.out w3 w4 e x y z (H0V.out.trans (HB3.out.mono H0V.out.size)) h4; have HQ := Hid.out (p := Hid _) hfin; clear hfin; obtain ⟨⟨a4, l4, c4, z4, rfl⟩, hb4⟩ := h4.form; clear h4; obtain ⟨_, ⟨f0, f1, f2⟩, ff⟩ := HAT.out w4 (HB3.out.trans (hb4.mono HB3.out.size)); clear hb4))
  all_goals go_wp2_with fail
  all_goals exact bodyPost_ret (v := .tuple #[.slice a4 l4 c4, ints3 z4 0 0]) (by simp [results, Tryz.results15, go_sem, cell_set, f0, f1, f2]) rfl (HQ.out _ _ _)
end

section
open Go.RowKit Go.Sort Go.Shelf

/-- Fewest's boxes: the program, and what is handed back. -/
abbrev fwW (w : World) (ca : Option Addr) (n cc : Nat) (wa : Option Addr) (m wc : Nat) (lk rg : Int) : World := ((w.alloc (.cells #[.slice ca n cc, .slice wa m wc, .int .i64 lk, .int .i64 rg] 25)).alloc (.cells #[nilV] 26)).alloc (.cells #[.int .i64 0, .int .i64 0, .int .i64 0] 29)
/-- What lies in them. -/
structure FwB (w W : World) (ca : Option Addr) (n cc : Nat) (wa : Option Addr) (m wc : Nat) (lk rg : Int) : Prop where
  low : Below w.heap.size w W
  hp : W.heap[w.heap.size]? = some (.cells #[.slice ca n cc, .slice wa m wc, .int .i64 lk, .int .i64 rg] 25)
  hr : W.heap[w.heap.size + 1]? = some (.cells #[nilV] 26)
  hf : W.heap[w.heap.size + 1 + 1]? = some (.cells #[.int .i64 0, .int .i64 0, .int .i64 0] 29)
theorem fwB_start (w : World) (ca : Option Addr) (n cc : Nat) (wa : Option Addr) (m wc : Nat) (lk rg : Int) : FwB w (fwW w ca n cc wa m wc lk rg) ca n cc wa m wc lk rg := by
  refine ⟨(((Below.refl _ _).alloc (Nat.le_refl _) _).alloc (by simp) _).alloc (by simp; omega) _, box_later (box_later (heap_alloc_new _ _) _) _, ?_, ?_⟩
  · have := box_later (heap_alloc_new (w.alloc (.cells #[.slice ca n cc, .slice wa m wc, .int .i64 lk, .int .i64 rg] 25)) (.cells #[nilV] 26)) (.cells #[.int .i64 0, .int .i64 0, .int .i64 0] 29)
    simpa using this
  · have := heap_alloc_new ((w.alloc (.cells #[.slice ca n cc, .slice wa m wc, .int .i64 lk, .int .i64 rg] 25)).alloc (.cells #[nilV] 26)) (.cells #[.int .i64 0, .int .i64 0, .int .i64 0] 29)
    simpa using this
section
variable {w W : World} {ca : Option Addr} {n cc : Nat} {wa : Option Addr} {m wc : Nat} {lk rg : Int}
theorem FwB.below (h : FwB w W ca n cc wa m wc lk rg) {V : World} (hb : Below W.heap.size W V) : FwB w V ca n cc wa m wc lk rg :=
  ⟨h.low.trans (hb.mono h.low.size), (hb.block _ (box_lt h.hp)).trans h.hp, (hb.block _ (box_lt h.hr)).trans h.hr, (hb.block _ (box_lt h.hf)).trans h.hf⟩
theorem FwB.cells (h : FwB w W ca n cc wa m wc lk rg) : (W.cell? ⟨w.heap.size, 0, none⟩ = some (.slice ca n cc) ∧ W.cell? ⟨w.heap.size, 1, none⟩ = some (.slice wa m wc) ∧ W.cell? ⟨w.heap.size, 2, none⟩ = some (.int .i64 lk) ∧ W.cell? ⟨w.heap.size, 3, none⟩ = some (.int .i64 rg)) ∧ W.cell? ⟨w.heap.size + 1, 0, none⟩ = some nilV ∧ (W.cell? ⟨w.heap.size + 1 + 1, 0, none⟩ = some (.int .i64 0) ∧ W.cell? ⟨w.heap.size + 1 + 1, 1, none⟩ = some (.int .i64 0) ∧ W.cell? ⟨w.heap.size + 1 + 1, 2, none⟩ = some (.int .i64 0)) ∧ (∀ i, W.frozen? ⟨w.heap.size + 1, i, none⟩ = false) ∧ ∀ i, W.frozen? ⟨w.heap.size + 1 + 1, i, none⟩ = false :=
  ⟨⟨box_cell h.hp rfl, box_cell h.hp rfl, box_cell h.hp rfl, box_cell h.hp rfl⟩, box_cell h.hr rfl, ⟨box_cell h.hf rfl, box_cell h.hf rfl, box_cell h.hf rfl⟩, fun _ => box_free h.hr, fun _ => box_free h.hf⟩
end
/-- What Fewest hands back. -/
def FewE (w : World) (n : Nat) (L : Nat → Nat) (X : Nat → Nat → Nat → Int) (words : List Int) (lk rg : Nat) (e : Ending) (w' : World) : Prop := ∃ a c P z, e = .returned (.tuple #[.slice a P.length c, ints3 z 0 0]) ∧ FewQ n L X words lk rg P z ∧ PlIn w' a P ∧ P.length ≤ 6 ∧ Below w.heap.size w w' ∧ ∀ b o, a = some ⟨b, o, none⟩ → 0 < P.length → w.heap.size ≤ b

set_option maxRecDepth 100000 in
set_option maxHeartbeats 1600000 in
theorem few_many (w : World) (ca : Option Addr) (n cc : Nat) (wa : Option Addr) (wc lk rg : Nat) (words : List Int) (A : Nat → Option Addr) (L C : Nat → Nat) (X : Nat → Nat → Nat → Int) (hR : chk n L X words.length lk rg = (0, 0, 0)) (hp : PIn w ca n A L C X) (hc : COk n L X words.length lk rg) (h6 : 6 < (plA L X n).length) :
    Calls Tryz.prog 5 #[prgV ca n cc wa words.length wc lk rg] w (FewE w n L X words lk rg) := by
  have HCHK : Hid (∀ W, Below w.heap.size w W → Calls Tryz.prog 11 #[prgV ca n cc wa words.length wc lk rg] W fun e w' => e = .returned (ints3 0 0 0) ∧ Below W.heap.size W w') := fun W hb => check_any ca n cc wa words.length wc lk rg A L C X 0 0 0 hR W (hp.below hb)
  have HLET : Hid (∀ W, Below w.heap.size w W → Calls Tryz.prog 12 #[prgV ca n cc wa words.length wc lk rg] W fun e w' => ∃ a c, e = .returned (.slice a (plA L X n).length c) ∧ Below W.heap.size W w') := fun W hb => (letting_any W ca n cc wa words.length wc lk rg A L C X (hp.below hb) hc.n4 hc.L4).mono fun e w' ⟨v, h1, h2, h3⟩ => by
    obtain ⟨a, c, rfl⟩ := h2.form
    exact ⟨a, c, h1, h3⟩
  have HQ : Hid (FewQ n L X words lk rg [] 1) := .inl ⟨h6, rfl, rfl⟩
  obtain ⟨wl, hwl⟩ : ∃ k, words.length = k := ⟨_, rfl⟩
  obtain ⟨pl, hpl⟩ : ∃ k, (plA L X n).length = k := ⟨_, rfl⟩
  have HB0 := Hid.out (p := Hid _) (fwB_start w ca n cc wa wl wc lk rg)
  rw [hwl] at HCHK HLET ⊢
  rw [hpl] at HLET h6
  have h6' : (pl : Int) > 6 := by omega
  clear hp hc hR hwl hpl
  have c0 := HB0.out.cells
  obtain ⟨⟨p0, p1, p2, p3⟩, _⟩ := c0
  go_enter Tryz.func5, Tryz.ntmps5
  go_wp2_with fail
  refine Calls.mono (HCHK.out _ HB0.out.low) ?_
  rintro e w1 ⟨rfl, hb1⟩
  have HB1 : Hid (FwB w w1 ca n cc wa wl wc lk rg) := HB0.out.below hb1
  have hup := fun o => (HB1.out.below ((Below.refl _ _).alloc (Nat.le_refl _) o)).cells
  have p0 := fun o => (hup o).1.1
  have p1 := fun o => (hup o).1.2.1
  have p2 := fun o => (hup o).1.2.2.1
  have p3 := fun o => (hup o).1.2.2.2
  clear hb1 hup HCHK HB0
  go_wp2_with fail
  refine Calls.mono (HLET.out _ (HB1.out.below ((Below.refl _ _).alloc (Nat.le_refl _) _)).low) ?_
  rintro e w2 ⟨a2, c2, rfl, hb2⟩
  have HB2 : Hid (FwB w w2 ca n cc wa wl wc lk rg) := (HB1.out.below ((Below.refl _ _).alloc (Nat.le_refl _) _)).below hb2
  obtain ⟨_, r0, ⟨f0, f1, f2⟩, rf, ff⟩ := HB2.out.cells
  clear HLET HB1 hb2 p0 p1 p2 p3
  go_wp2_with fail
  refine bodyPost_ret (v := .tuple #[nilV, ints3 1 0 0]) (by simp [results, Tryz.results5, go_sem, cell_set, r0, f0, f1, f2]) rfl ⟨none, 0, [], 1, rfl, HQ.out, plIn_nil _ _, by simp, ?_, fun b o e => by cases e⟩
  exact (((HB2.out.low.setCell (by show w.heap.size ≤ w.heap.size + 1; omega) _).setCell (by show w.heap.size ≤ w.heap.size + 1 + 1; omega) _).setCell (by show w.heap.size ≤ w.heap.size + 1 + 1; omega) _).setCell (by show w.heap.size ≤ w.heap.size + 1 + 1; omega) _
set_option maxRecDepth 100000 in
set_option maxHeartbeats 1600000 in
theorem few_full (w : World) (ca : Option Addr) (n cc : Nat) (wa : Option Addr) (wc lk rg : Nat) (words : List Int) (A : Nat → Option Addr) (L C : Nat → Nat) (X : Nat → Nat → Nat → Int) (hR : chk n L X words.length lk rg = (0, 0, 0)) (hp : PIn w ca n A L C X) (hc : COk n L X words.length lk rg) (hn0 : 0 < n) (hw : SIs w wa words) (hnil : wa = none → words = [] ∧ wc = 0) (hfit : ∀ t i, t < n → i < L t → I64n (X t i 2)) (hwf : ∀ x, x ∈ words → I64n x) (htab : TabB w.heap.size w) (h6 : (plA L X n).length ≤ 6) (l0 : List Oc) (ht : Told (nxX L X 0) (outsX L X 0) (beginX n words lk rg) 4000 true l0) :
    Calls Tryz.prog 5 #[prgV ca n cc wa words.length wc lk rg] w (FewE w n L X words lk rg) := by
  have HCHK : Hid (∀ W, Below w.heap.size w W → Calls Tryz.prog 11 #[prgV ca n cc wa words.length wc lk rg] W fun e w' => e = .returned (ints3 0 0 0) ∧ Below W.heap.size W w') := fun W hb => check_any ca n cc wa words.length wc lk rg A L C X 0 0 0 hR W (hp.below hb)
  have HLET : Hid (∀ W, Below w.heap.size w W → Calls Tryz.prog 12 #[prgV ca n cc wa words.length wc lk rg] W fun e w' => ∃ a c, e = .returned (.slice a (plA L X n).length c) ∧ Below W.heap.size W w') := fun W hb => (letting_any W ca n cc wa words.length wc lk rg A L C X (hp.below hb) hc.n4 hc.L4).mono fun e w' ⟨v, h1, h2, h3⟩ => by
    obtain ⟨a, c, rfl⟩ := h2.form
    exact ⟨a, c, h1, h3⟩
  have HSC : Hid (∀ W, Below w.heap.size w W → Calls Tryz.prog 13 #[prgV ca n cc wa words.length wc lk rg] W fun e w' => ∃ a l c, e = .returned (.tuple #[.slice a l c, ints3 10 0 0]) ∧ Below W.heap.size W w') := fun W hb => (sc_yes W ca n cc wa wc lk rg words A L C X hR (hp.below hb) hc hn0 (hw.below hb) hnil hfit hwf (htab.up hb)).mono fun e w' ⟨full, a, len, cap, es, h1, h2, _, _, _, _, h7⟩ => by
    have := (told_same h2 ht).1
    subst this
    exact ⟨a, len, cap, h1, h7⟩
  have HQ : Hid (FewQ n L X words lk rg [] 10) := .inr ⟨h6, .inl ⟨l0, ht, rfl, rfl⟩⟩
  obtain ⟨wl, hwl⟩ : ∃ k, words.length = k := ⟨_, rfl⟩
  obtain ⟨pl, hpl⟩ : ∃ k, (plA L X n).length = k := ⟨_, rfl⟩
  have HB0 := Hid.out (p := Hid _) (fwB_start w ca n cc wa wl wc lk rg)
  rw [hwl] at HCHK HLET HSC ⊢
  rw [hpl] at HLET h6
  have h6' : ¬ ((pl : Int) > 6) := by omega
  clear hp hc hR hwl hpl ht hn0 hw hnil hfit hwf htab
  have c0 := HB0.out.cells
  obtain ⟨⟨p0, p1, p2, p3⟩, _⟩ := c0
  go_enter Tryz.func5, Tryz.ntmps5
  go_wp2_with fail
  refine Calls.mono (HCHK.out _ HB0.out.low) ?_
  rintro e w1 ⟨rfl, hb1⟩
  have HB1 : Hid (FwB w w1 ca n cc wa wl wc lk rg) := HB0.out.below hb1
  have hup := fun o => (HB1.out.below ((Below.refl _ _).alloc (Nat.le_refl _) o)).cells
  have p0 := fun o => (hup o).1.1
  have p1 := fun o => (hup o).1.2.1
  have p2 := fun o => (hup o).1.2.2.1
  have p3 := fun o => (hup o).1.2.2.2
  clear hb1 hup HCHK HB0
  go_wp2_with fail
  refine Calls.mono (HLET.out _ (HB1.out.below ((Below.refl _ _).alloc (Nat.le_refl _) _)).low) ?_
  rintro e w2 ⟨a2, c2, rfl, hb2⟩
  have HB2 : Hid (FwB w w2 ca n cc wa wl wc lk rg) := (HB1.out.below ((Below.refl _ _).alloc (Nat.le_refl _) _)).below hb2
  clear HLET HB1 hb2 p0 p1 p2 p3
  obtain ⟨⟨p0, p1, p2, p3⟩, _⟩ := HB2.out.cells
  go_wp2_with fail
  refine Calls.mono (HSC.out _ HB2.out.low) ?_
  rintro e w3 ⟨a3, l3, c3, rfl, hb3⟩
  have HB3 : Hid (∀ o o', FwB w ((w3.alloc o).alloc o') ca n cc wa wl wc lk rg) := fun o o' => (HB2.out.below hb3).below (((Below.refl _ _).alloc (Nat.le_refl _) o).alloc (by simp) o')
  have hup := fun o o' => (HB3.out o o').cells
  have r0 := fun o o' => (hup o o').2.1
  have f0 := fun o o' => (hup o o').2.2.1.1
  have f1 := fun o o' => (hup o o').2.2.1.2.1
  have f2 := fun o o' => (hup o o').2.2.1.2.2
  have rf := fun o o' => (hup o o').2.2.2.1
  have ff := fun o o' => (hup o o').2.2.2.2
  have hsz3 : w.heap.size + 1 + 1 < w3.heap.size := Nat.lt_of_lt_of_le (box_lt HB2.out.hf) hb3.size
  have n1 : w3.heap.size ≠ w.heap.size + 1 := by omega
  have n2 : w3.heap.size ≠ w.heap.size + 1 + 1 := by omega
  have n3 : w3.heap.size + 1 ≠ w.heap.size + 1 := by omega
  have n4 : w3.heap.size + 1 ≠ w.heap.size + 1 + 1 := by omega
  have n5 : w.heap.size + 1 ≠ w3.heap.size + 1 := by omega
  have n6 : w.heap.size + 1 + 1 ≠ w3.heap.size + 1 := by omega
  clear HSC hb3 hup p0 p1 p2 p3 HB2
  go_wp2_with fail
  have HBB := Hid.out (p := Hid _) (HB3.out (.cells #[.slice a3 l3 c3] 44) (.cells #[.int .i64 10, .int .i64 0, .int .i64 0] 29)).low
  go_region
  all_goals go_wp2
  all_goals refine bodyPost_ret (v := .tuple #[nilV, ints3 10 0 0]) (by simp [results, Tryz.results5, go_sem, cell_set, r0, f0, f1, f2]) rfl ⟨none, 0, [], 10, rfl, HQ.out, plIn_nil _ _, by simp, ?_, fun b o e => by cases e⟩
  all_goals exact (((HBB.out.drew.setCell (by show w.heap.size ≤ w.heap.size + 1; omega) _).setCell (by show w.heap.size ≤ w.heap.size + 1 + 1; omega) _).setCell (by show w.heap.size ≤ w.heap.size + 1 + 1; omega) _).setCell (by show w.heap.size ≤ w.heap.size + 1 + 1; omega) _
end

end Go.Proofs.YtelckcpjmekgcadGreatDoor
