/-
  The law of programs with less to do: no more orders, and a second time nothing changes: the walk.
-/
import Derived.Test.YtkailbdjilkneaaDoorNewO
import Derived.Test.YtkailbdjilkneaaDoorRead
import Derived.BigQuiet
import Derived.Test.YtkailbdjilkneaaDoorLivC
import Derived.Test.YtkailbdjilkneaaDoorVast
namespace Go.Proofs.YtkailbdjilkneaaDoor
open Go.RowKit

/-- What is known of a program that Const made. -/
def AQ (n : Nat) (words : List Int) (LA : Nat → Nat) (XA : Nat → Nat → Nat → Int) (V : World) (va ua : Option Addr) (uc : Nat) : Prop := (∃ A C, PIn V va n A LA C XA) ∧ SIs V ua words ∧ (ua = none → words = [] ∧ uc = 0)
theorem AQ.below {n : Nat} {words : List Int} {LA : Nat → Nat} {XA : Nat → Nat → Nat → Int} {V V' : World} {va ua : Option Addr} {uc : Nat} (h : AQ n words LA XA V va ua uc) (hb : Below V.heap.size V V') : AQ n words LA XA V' va ua uc := by
  obtain ⟨⟨A, C, h1⟩, h2, h3⟩ := h
  exact ⟨⟨A, C, h1.below hb⟩, h2.below hb, h3⟩
set_option maxRecDepth 100000 in
set_option maxHeartbeats 3200000 in
theorem less_walk (w : World) (ca : Option Addr) (n cc : Nat) (wa : Option Addr) (words : List Int) (wc : Nat) (lk rg x y z : Int) (N M : Nat) (LK RG : Int) (A : Nat → Option Addr) (L C : Nat → Nat) (X : Nat → Nat → Nat → Int) (hp : PIn w ca n A L C X) (LA : (Nat → Nat → Nat → Vl) → Nat → Nat) (XA : (Nat → Nat → Nat → Vl) → Nat → Nat → Nat → Int) (PE : (Nat → Nat → Nat → Vl) → Prop)
    (HOW : Hid (∀ V, Calls Tryd.prog 10 #[.agg #[.slice (some ⟨V.heap.size + 1, 0, none⟩) 1 1, nilV, .int .i64 0, .int .i64 1]] (own3W V) fun e w' => ∃ qb qo qc ua uc rb ro rc, e = .returned (.tuple #[.agg #[.slice (some ⟨qb, qo, none⟩) 1 qc, .slice ua 0 uc, .int .i64 0, .int .i64 1], ints3 0 0 0]) ∧ w'.cell? ⟨qb, qo, none⟩ = some (.slice (some ⟨rb, ro, none⟩) 3 rc) ∧ w'.cell? ⟨rb, ro + 4, none⟩ = some (.int .i64 1) ∧ w'.cell? ⟨rb, ro + 4 + 1, none⟩ = some (.int .i64 0) ∧ w'.cell? ⟨rb, ro + 4 + 2, none⟩ = some (.int .i64 4) ∧ w'.cell? ⟨rb, ro + 4 + 3, none⟩ = some (.int .i64 0) ∧ Below V.heap.size V w'))
    (HV : Hid (∀ W, Below w.heap.size w W → Calls Tryd.prog 19 #[prgV ca n cc wa words.length wc lk rg] W fun e w' => ∃ b, e = .returned (.bool b) ∧ Below W.heap.size W w'))
    (HC1 : Hid (∀ W, Below w.heap.size w W → Calls Tryd.prog 10 #[prgV ca n cc wa words.length wc lk rg] W fun e w' => ∃ va vc ua uc E, e = .returned (.tuple #[.agg #[.slice va N vc, .slice ua M uc, .int .i64 LK, .int .i64 RG], ints3 x y z]) ∧ Hid (∀ V, (∀ g, W.heap.size ≤ g → g < w'.heap.size → V.heap[g]? = w'.heap[g]?) → Below w.heap.size w V → x = 0 → AQ n words (LA E) (XA E) V va ua uc ∧ PE E) ∧ Below W.heap.size W w'))
    (HD : Hid (∀ W, Below w.heap.size w W → Calls Tryd.prog 11 #[prgV ca n cc wa words.length wc lk rg] W fun e w' => ∃ va vc ua uc Lb Xb, e = .returned (.tuple #[.agg #[.slice va N vc, .slice ua M uc, .int .i64 LK, .int .i64 RG], ints3 x y z]) ∧ Hid (∀ V, (∀ g, W.heap.size ≤ g → g < w'.heap.size → V.heap[g]? = w'.heap[g]?) → Below w.heap.size w V → x = 0 → (∃ A C, PIn V va n A Lb C Xb) ∧ ∀ t, t < n → Lb t ≤ L t) ∧ Below W.heap.size W w'))
    (HC2 : Hid (x = 0 → N = n ∧ y = 0 ∧ z = 0 ∧ (∀ E, PE E → ∀ t, t < n → LA E t ≤ L t) ∧ ∀ U va vc ua uc E, PE E → AQ n words (LA E) (XA E) U va ua uc → Below w.heap.size w U → Calls Tryd.prog 10 #[.agg #[.slice va N vc, .slice ua M uc, .int .i64 LK, .int .i64 RG]] U fun e w' => ∃ vd vdc ud udc, e = .returned (.tuple #[.agg #[.slice vd N vdc, .slice ud M udc, .int .i64 LK, .int .i64 RG], ints3 0 0 0]) ∧ Hid (∀ V, (∀ g, U.heap.size ≤ g → g < w'.heap.size → V.heap[g]? = w'.heap[g]?) → Below w.heap.size w V → ∃ A C, PIn V vd n A (LA E) C (XA E)) ∧ Below U.heap.size U w')) :
    Calls Tryd.prog 5 #[prgV ca n cc wa words.length wc lk rg] w fun e w' => e = .returned (.bool true) ∧ Below w.heap.size w w' := by
  have HP := Hid.out (p := Hid _) hp
  have HB0 := Hid.out (p := Hid _) (below_one w (.cells #[.slice ca n cc, .slice wa words.length wc, .int .i64 lk, .int .i64 rg] 25))
  have hp0 := heap_alloc_new w (.cells #[.slice ca n cc, .slice wa words.length wc, .int .i64 lk, .int .i64 rg] 25)
  obtain ⟨W0, hW0⟩ : ∃ V, w.alloc (.cells #[.slice ca n cc, .slice wa words.length wc, .int .i64 lk, .int .i64 rg] 25) = V := ⟨_, rfl⟩
  rw [hW0] at HB0 hp0
  have HAT : Hid (∀ V, Below W0.heap.size W0 V → Below w.heap.size w V ∧ V.cell? ⟨w.heap.size, 0, none⟩ = some (.slice ca n cc) ∧ V.cell? ⟨w.heap.size, 1, none⟩ = some (.slice wa words.length wc) ∧ V.cell? ⟨w.heap.size, 2, none⟩ = some (.int .i64 lk) ∧ V.cell? ⟨w.heap.size, 3, none⟩ = some (.int .i64 rg)) := fun V hb => by
    have e1 := (hb.block w.heap.size (Array.getElem?_eq_some_iff.1 hp0).1).trans hp0
    exact ⟨HB0.out.trans (hb.mono HB0.out.size), box_cell e1 rfl, box_cell e1 rfl, box_cell e1 rfl, box_cell e1 rfl⟩
  have hs0 : W0.heap.size = w.heap.size + 1 := by rw [← hW0, World.size_alloc]
  have hown := HOW.out W0
  unfold own3W at hown
  rw [hs0] at hown
  have HOWN := Hid.out (p := Hid _) hown
  have HSZ := Hid.out (p := Hid _) hs0
  have HW0 := Hid.out (p := Hid _) hW0
  obtain ⟨m, hm⟩ : ∃ m, words.length = m := ⟨_, rfl⟩
  rw [hm] at HV HC1 HD HAT HW0 ⊢
  clear hp hp0 hW0 hm hown hs0 HOW
  go_enter Tryd.func5, Tryd.ntmps5
  go_wp2_with fail
  rw [HW0.out]
  refine Calls.mono HOWN.out ?_
  rintro e w1 ⟨qb, qo, qc, oua, ouc, rb, ro, rc, rfl, q0, r0, r1, r2, r3, hb1⟩
  rw [← (HSZ.out)] at hb1
  have H1 := Hid.out (p := Hid _) hb1
  have HU1 : Hid (Below W0.heap.size W0 ((w1.alloc (.cells #[.slice (some ⟨qb, qo, none⟩) 1 qc, .slice oua 0 ouc, .int .i64 0, .int .i64 1] 25)).alloc (.cells #[.int .i64 0, .int .i64 0, .int .i64 0] 29)) ∧ ((w1.alloc (.cells #[.slice (some ⟨qb, qo, none⟩) 1 qc, .slice oua 0 ouc, .int .i64 0, .int .i64 1] 25)).alloc (.cells #[.int .i64 0, .int .i64 0, .int .i64 0] 29)).heap[w1.heap.size + 1]? = some (.cells #[.int .i64 0, .int .i64 0, .int .i64 0] 29)) := by
    refine ⟨(hb1.alloc hb1.size _).alloc (Nat.le_trans hb1.size (by simp)) _, ?_⟩
    have := heap_alloc_new (w1.alloc (.cells #[.slice (some ⟨qb, qo, none⟩) 1 qc, .slice oua 0 ouc, .int .i64 0, .int .i64 1] 25)) (.cells #[.int .i64 0, .int .i64 0, .int .i64 0] 29)
    rwa [World.size_alloc] at this
  have s0 := fun o o' => cell_up (cell_up q0 o) o'
  have s1 := fun o o' => cell_up (cell_up r0 o) o'
  have s2 := fun o o' => cell_up (cell_up r1 o) o'
  have s3 := fun o o' => cell_up (cell_up r2 o) o'
  have s4 := fun o o' => cell_up (cell_up r3 o) o'
  obtain ⟨hwU, p0, p1, p2, p3⟩ := HAT.out _ HU1.out.1
  have HVU := Hid.out (p := Hid _) (HV.out _ hwU)
  clear q0 r0 r1 r2 r3 hb1 HOWN HW0 hwU HV
  go_wp2_with fail
  refine Calls.mono HVU.out ?_
  rintro e w4 ⟨bv, rfl, hb4⟩
  have HF4 : Hid (w4.heap[w1.heap.size + 1]? = some (.cells #[.int .i64 0, .int .i64 0, .int .i64 0] 29)) := (hb4.block _ (Array.getElem?_eq_some_iff.1 HU1.out.2).1).trans HU1.out.2
  have H4 := Hid.out (p := Hid _) (HU1.out.1.trans (hb4.mono HU1.out.1.size))
  obtain ⟨hw4, t0, t1, t2, t3⟩ := HAT.out w4 H4.out
  have HW4 := Hid.out (p := Hid _) hw4
  clear hb4 hw4 HVU p0 p1 p2 p3 s0 s1 s2 s3 s4
  cases bv with
  | true =>
    go_wp2_with fail
    go_ret
    exact ⟨rfl, HW4.out⟩
  | false =>
    have HC1' := Hid.out (p := Hid _) (HC1.out w4 HW4.out)
    clear HC1
    go_wp2_with fail
    refine Calls.mono HC1'.out ?_
    rintro e w5 ⟨va, vc, ua, uc, E, rfl, HA, hb5⟩
    have hF5 := (hb5.block _ (Array.getElem?_eq_some_iff.1 HF4.out).1).trans HF4.out
    have hlt4 : w1.heap.size + 1 < w4.heap.size := (Array.getElem?_eq_some_iff.1 HF4.out).1
    have hF5' := box_later hF5 (.cells #[.slice va N vc, .slice ua M uc, .int .i64 LK, .int .i64 RG] 25)
    have c0 := box_cell (i := 0) hF5' rfl
    have c1 := box_cell (i := 1) hF5' rfl
    have c2 := box_cell (i := 2) hF5' rfl
    have f0 := box_free (i := 0) hF5'
    have f1 := box_free (i := 1) hF5'
    have f2 := box_free (i := 2) hF5'
    have hgs : W0.heap.size ≤ w1.heap.size + 1 := Nat.le_trans H1.out.size (by omega)
    have hA5 := heap_alloc_new w5 (.cells #[.slice va N vc, .slice ua M uc, .int .i64 LK, .int .i64 RG] 25)
    have hb05 : Below W0.heap.size W0 (w5.alloc (.cells #[.slice va N vc, .slice ua M uc, .int .i64 LK, .int .i64 RG] 25)) := (H4.out.trans (hb5.mono H4.out.size)).alloc (H4.out.trans (hb5.mono H4.out.size)).size _
    have hs := set3_is hF5' (.int .i64 x) (.int .i64 y) (.int .i64 z)
    have hl := set3_low hb05 hgs (.int .i64 x) (.int .i64 y) (.int .i64 z)
    have hfar := fun g (hg : g ≠ w1.heap.size + 1) => set3_far (W := w5.alloc (.cells #[.slice va N vc, .slice ua M uc, .int .i64 LK, .int .i64 RG] 25)) hg (.int .i64 x) (.int .i64 y) (.int .i64 z)
    obtain ⟨-, t0, t1, t2, t3⟩ := HAT.out _ hl
    obtain ⟨V, hV⟩ : ∃ V, (((w5.alloc (.cells #[.slice va N vc, .slice ua M uc, .int .i64 LK, .int .i64 RG] 25)).setCell ⟨w1.heap.size + 1, 0, none⟩ (.int .i64 x)).setCell ⟨w1.heap.size + 1, 1, none⟩ (.int .i64 y)).setCell ⟨w1.heap.size + 1, 2, none⟩ (.int .i64 z) = V := ⟨_, rfl⟩
    rw [hV] at hs hl
    have hl5 : w4.heap.size ≤ w5.heap.size := hb5.size
    have hAV : V.heap[w5.heap.size]? = some (.cells #[.slice va N vc, .slice ua M uc, .int .i64 LK, .int .i64 RG] 25) := by
      rw [← hV]
      exact (hfar _ (by omega)).trans hA5
    have hVs : V.heap.size = w5.heap.size + 1 := by rw [← hV]; simp
    have hAQ := HA.out V (fun g h1 h2 => by
      rw [← hV, hfar g (by omega)]
      exact (below_one w5 _).block g h2) (HAT.out V hl).1
    have hwV := (HAT.out V hl).1
    have HDV := Hid.out (p := Hid _) (HD.out V hwV)
    have HV5 := Hid.out (p := Hid _) (And.intro hs (And.intro hAV (And.intro hl (And.intro hVs (And.intro hV (And.intro hAQ (And.intro hlt4 hl5)))))))
    clear hF5 hF5' hb5 hA5 hb05 hs hl hfar hV hAV hVs hAQ hwV HD HC1' hgs hl5 hlt4
    go_wp2_with fail
    rw [HV5.out.2.2.2.2.1]
    clear t0 t1 t2 t3 c0 c1 c2 f0 f1 f2
    refine Calls.mono HDV.out ?_
    rintro e w6 ⟨vb, vbc, ub, ubc, Lb, Xb, rfl, HBQ, hb6⟩
    have hF6 := (hb6.block _ (Array.getElem?_eq_some_iff.1 HV5.out.1).1).trans HV5.out.1
    have hA6 := (hb6.block _ (Array.getElem?_eq_some_iff.1 HV5.out.2.1).1).trans HV5.out.2.1
    have hl6 : Below W0.heap.size W0 w6 := HV5.out.2.2.1.trans (hb6.mono HV5.out.2.2.1.size)
    have hU6 : Below w6.heap.size w6 ((w6.alloc (.cells #[.slice vb N vbc, .slice ub M ubc, .int .i64 LK, .int .i64 RG] 25)).alloc (.cells #[.int .i64 x, .int .i64 y, .int .i64 z] 29)) := below_two _ _ _
    have hBB : ((w6.alloc (.cells #[.slice vb N vbc, .slice ub M ubc, .int .i64 LK, .int .i64 RG] 25)).alloc (.cells #[.int .i64 x, .int .i64 y, .int .i64 z] 29)).heap[w6.heap.size]? = some (.cells #[.slice vb N vbc, .slice ub M ubc, .int .i64 LK, .int .i64 RG] 25) := box_later (heap_alloc_new _ _) _
    have hFU := (hU6.block _ (Array.getElem?_eq_some_iff.1 hF6).1).trans hF6
    have hAU := (hU6.block _ (Array.getElem?_eq_some_iff.1 hA6).1).trans hA6
    have hlU := hl6.trans (hU6.mono hl6.size)
    have c0 := box_cell (i := 0) hFU rfl
    have c1 := box_cell (i := 1) hFU rfl
    have c2 := box_cell (i := 2) hFU rfl
    have a0 := box_cell (i := 0) hAU rfl
    have a1 := box_cell (i := 1) hAU rfl
    have a2 := box_cell (i := 2) hAU rfl
    have a3 := box_cell (i := 3) hAU rfl
    obtain ⟨hwU, t0, t1, t2, t3⟩ := HAT.out _ hlU
    have hs5 : w5.heap.size < w6.heap.size := by have := hb6.size; have := HV5.out.2.2.2.1; omega
    have HU6 := Hid.out (p := Hid _) (And.intro hFU (And.intro hAU (And.intro hlU (And.intro hwU (And.intro hBB hs5)))))
    have hAQ6 : x = 0 → AQ n words (LA E) (XA E) ((w6.alloc (.cells #[.slice vb N vbc, .slice ub M ubc, .int .i64 LK, .int .i64 RG] 25)).alloc (.cells #[.int .i64 x, .int .i64 y, .int .i64 z] 29)) va ua uc ∧ PE E := fun hx => ⟨((HV5.out.2.2.2.2.2.1 hx).1.below hb6).below hU6, (HV5.out.2.2.2.2.2.1 hx).2⟩
    have hBQ6 := HBQ.out ((w6.alloc (.cells #[.slice vb N vbc, .slice ub M ubc, .int .i64 LK, .int .i64 RG] 25)).alloc (.cells #[.int .i64 x, .int .i64 y, .int .i64 z] 29)) (fun g _ h2 => hU6.block g h2) hwU
    have HQ6 := Hid.out (p := Hid _) (And.intro hAQ6 hBQ6)
    have HB6 := Hid.out (p := Hid _) hb6
    clear hb6
    have HLT : Hid (w1.heap.size + 1 < w6.heap.size) := (Array.getElem?_eq_some_iff.1 hF6).1
    clear hF6 hA6 hl6 hU6 hBB hFU hAU hlU hwU hs5 hAQ6 hBQ6 HDV
    by_cases hx : x = 0
    · subst hx
      obtain ⟨hN, rfl, rfl, hle, hc2⟩ := HC2.out rfl
      have hN' := hN.symm
      subst hN'
      have HCC := Hid.out (p := Hid _) (hc2 _ va vc ua uc E (HQ6.out.1 rfl).2 (HQ6.out.1 rfl).1 HU6.out.2.2.2.1)
      have HLE := Hid.out (p := Hid _) (hle E (HQ6.out.1 rfl).2)
      clear hN hle hc2
      go_wp2_with fail
      refine Calls.mono HCC.out ?_
      rintro e w7 ⟨vd, vdc, ud, udc, rfl, HDQ, hb7⟩
      have hF7 := (hb7.block _ (Array.getElem?_eq_some_iff.1 HU6.out.1).1).trans HU6.out.1
      have hA7 := (hb7.block _ (Array.getElem?_eq_some_iff.1 HU6.out.2.1).1).trans HU6.out.2.1
      have hB7 := (hb7.block _ (Array.getElem?_eq_some_iff.1 HU6.out.2.2.2.2.1).1).trans HU6.out.2.2.2.2.1
      have hl7 := HU6.out.2.2.1.trans (hb7.mono HU6.out.2.2.1.size)
      have hF7' := box_later hF7 (.cells #[.slice vd n vdc, .slice ud M udc, .int .i64 LK, .int .i64 RG] 25)
      have hA7' := box_later hA7 (.cells #[.slice vd n vdc, .slice ud M udc, .int .i64 LK, .int .i64 RG] 25)
      have hB7' := box_later hB7 (.cells #[.slice vd n vdc, .slice ud M udc, .int .i64 LK, .int .i64 RG] 25)
      have hD7' := heap_alloc_new w7 (.cells #[.slice vd n vdc, .slice ud M udc, .int .i64 LK, .int .i64 RG] 25)
      have c0 := box_cell (i := 0) hF7' rfl
      have c1 := box_cell (i := 1) hF7' rfl
      have c2 := box_cell (i := 2) hF7' rfl
      have f0 := box_free (i := 0) hF7'
      have f1 := box_free (i := 1) hF7'
      have f2 := box_free (i := 2) hF7'
      have hgs : W0.heap.size ≤ w1.heap.size + 1 := Nat.le_trans H1.out.size (by omega)
      have hl8 := set3_low (hl7.alloc hl7.size (.cells #[.slice vd n vdc, .slice ud M udc, .int .i64 LK, .int .i64 RG] 25)) hgs (.int .i64 0) (.int .i64 0) (.int .i64 0)
      have hfar := fun g (hg : g ≠ w1.heap.size + 1) => set3_far (W := w7.alloc (.cells #[.slice vd n vdc, .slice ud M udc, .int .i64 LK, .int .i64 RG] 25)) hg (.int .i64 0) (.int .i64 0) (.int .i64 0)
      have hs8 := set3_is hF7' (.int .i64 0) (.int .i64 0) (.int .i64 0)
      have h67 : w6.heap.size + 1 + 1 ≤ w7.heap.size := by simpa using hb7.size
      have hlt := HLT.out
      have hlt5 := HU6.out.2.2.2.2.2
      have hlt1 := HV5.out.2.2.2.2.2.2.1
      have hlt2 := HV5.out.2.2.2.2.2.2.2
      have hlt4 := HV5.out.2.2.2.1
      have hn5 : w5.heap.size ≠ w1.heap.size + 1 := by omega
      have hAU := (hfar _ hn5).trans hA7'
      have hBU := (hfar w6.heap.size (by omega)).trans hB7'
      have hDU := (hfar w7.heap.size (by omega)).trans hD7'
      have a0 := box_cell (i := 0) hAU rfl
      have d0 := box_cell (i := 0) hDU rfl
      have e0 := box_cell (i := 0) hs8 rfl
      obtain ⟨-, t0, t1, t2, t3⟩ := HAT.out _ hl8
      obtain ⟨V8, hV8⟩ : ∃ V, (((w7.alloc (.cells #[.slice vd n vdc, .slice ud M udc, .int .i64 LK, .int .i64 RG] 25)).setCell ⟨w1.heap.size + 1, 0, none⟩ (.int .i64 0)).setCell ⟨w1.heap.size + 1, 1, none⟩ (.int .i64 0)).setCell ⟨w1.heap.size + 1, 2, none⟩ (.int .i64 0) = V := ⟨_, rfl⟩
      rw [hV8] at hAU hBU hDU hl8
      have hw8 := (HAT.out V8 hl8).1
      have k7 : ∀ g, g ≠ w1.heap.size + 1 → g < w7.heap.size → V8.heap[g]? = w7.heap[g]? := fun g h1 h2 => by
        rw [← hV8, hfar g h1]
        exact (below_one w7 _).block g h2
      have k6 : ∀ g, g ≠ w1.heap.size + 1 → g < w6.heap.size → V8.heap[g]? = w6.heap[g]? := fun g h1 h2 => by
        rw [k7 g h1 (by omega), hb7.block g (by simp; omega)]
        exact (below_two w6 _ _).block g h2
      have hVw : V.heap.size ≤ w6.heap.size := HB6.out.size
      have k5 : ∀ g, g ≠ w1.heap.size + 1 → g < w5.heap.size → V8.heap[g]? = w5.heap[g]? := fun g h1 h2 => by
        rw [k6 g h1 (by omega), HB6.out.block g (by omega), ← HV5.out.2.2.2.2.1, set3_far h1]
        exact (below_one w5 _).block g h2
      obtain ⟨A4, C4, hp4⟩ := HDQ.out V8 (fun g h1 h2 => k7 g (by simp at h1; omega) h2) hw8
      obtain ⟨⟨A3, C3, hp3⟩, hle3⟩ := HBQ.out V8 (fun g h1 h2 => k6 g (by omega) h2) hw8 trivial
      obtain ⟨⟨⟨A2, C2, hp2⟩, -, -⟩, -⟩ := HA.out V8 (fun g h1 h2 => k5 g (by omega) h2) hw8 trivial
      have HPS := Hid.out (p := Hid _) (And.intro (HP.out.below hw8) (And.intro hp2 (And.intro hp3 hp4)))
      have HLES := Hid.out (p := Hid _) (And.intro HLE.out hle3)
      have RD : Hid (∀ U, Below V8.heap.size V8 U → Below w.heap.size w U ∧ U.cell? ⟨w.heap.size, 0, none⟩ = some (.slice ca n cc) ∧ U.cell? ⟨w5.heap.size, 0, none⟩ = some (.slice va n vc) ∧ U.cell? ⟨w6.heap.size, 0, none⟩ = some (.slice vb n vbc) ∧ U.cell? ⟨w7.heap.size, 0, none⟩ = some (.slice vd n vdc)) := fun U hU => by
        have h1 := HAT.out U (hl8.trans (hU.mono hl8.size))
        exact ⟨h1.1, h1.2.1, box_cell ((hU.block _ (Array.getElem?_eq_some_iff.1 hAU).1).trans hAU) rfl, box_cell ((hU.block _ (Array.getElem?_eq_some_iff.1 hBU).1).trans hBU) rfl, box_cell ((hU.block _ (Array.getElem?_eq_some_iff.1 hDU).1).trans hDU) rfl⟩
      have HV8 := Hid.out (p := Hid _) hV8
      clear hF7 hA7 hB7 hl7 hF7' hA7' hB7' hD7' hgs hl8 hfar hs8 h67 hlt hlt5 hlt1 hlt2 hlt4 hn5 hAU hBU hDU hV8 hw8 k7 k6 k5 hVw hp4 hp3 hle3 hp2 HDQ HBQ HA HLE HQ6 HU6 HLT HB6 HV5 HF4 H4 HW4 H1 HU1 HC2 HAT HB0 HP hb7 HCC HSZ
      go_wp2_with fail
      rw [HV8.out]
      clear t0 t1 t2 t3 a0 d0 e0 c0 c1 c2 f0 f1 f2 HV8
      go_loopw [9] (fun x wr => ∃ t : Nat, t ≤ n ∧ x = .int .i64 t ∧ Hid (Below V8.heap.size V8 wr)) (fun x _ => n - (intOf x).toNat)
      case atStart => exact ⟨0, Nat.zero_le _, rfl, Below.refl _ _⟩
      case round =>
        obtain ⟨t, ht, rfl, HI⟩ := hrel
        by_cases htl : t < n
        · obtain ⟨b1, o1, e1, g1⟩ := HPS.out.1.code t htl
          obtain ⟨b2, o2, e2, g2⟩ := HPS.out.2.1.code t htl
          obtain ⟨b3, o3, e3, g3⟩ := HPS.out.2.2.1.code t htl
          obtain ⟨b4, o4, e4, g4⟩ := HPS.out.2.2.2.code t htl
          subst e1 e2 e3 e4
          have m2 := HLES.out.1 t htl
          have hnb := HPS.out.1.num
          have hlab := HPS.out.2.1.len t htl
          have m3 := HLES.out.2 t htl
          have HO2 : Hid (∀ i, i < LA E t → OrdAt V8 (A2 t) i (XA E t i 0) (XA E t i 1) (XA E t i 2) (XA E t i 3)) := fun i hi => HPS.out.2.1.ord t i htl hi
          have HO4 : Hid (∀ i, i < LA E t → OrdAt V8 (A4 t) i (XA E t i 0) (XA E t i 1) (XA E t i 2) (XA E t i 3)) := fun i hi => HPS.out.2.2.2.ord t i htl hi
          obtain ⟨la, hla⟩ : ∃ q, LA E t = q := ⟨_, rfl⟩
          obtain ⟨lp, hlp⟩ : ∃ q, L t = q := ⟨_, rfl⟩
          obtain ⟨lb, hlb⟩ : ∃ q, Lb t = q := ⟨_, rfl⟩
          rw [hla] at m2 g2 g4 HO2 HO4 hlab
          rw [hlp] at m2 m3 g1
          rw [hlb] at m3 g3
          obtain ⟨r2, hr2⟩ : ∃ q, A2 t = q := ⟨_, rfl⟩
          obtain ⟨r4, hr4⟩ : ∃ q, A4 t = q := ⟨_, rfl⟩
          rw [hr2] at g2 HO2
          rw [hr4] at g4 HO4
          have HG := Hid.out (p := Hid _) (And.intro g1 (And.intro g2 (And.intro g3 g4)))
          obtain ⟨-, y1, y2, y3, y4⟩ := RD.out wr HI.out
          have z1 := (HI.out.cell (lt_of_cell g1)).trans g1
          have z2 := (HI.out.cell (lt_of_cell g2)).trans g2
          have z3 := (HI.out.cell (lt_of_cell g3)).trans g3
          have z4 := (HI.out.cell (lt_of_cell g4)).trans g4
          have hti : (t : Int) < (n : Int) := by omega
          have n2 : decide ((lp : Int) < (la : Int)) = false := decide_eq_false (by omega)
          have n3 : decide ((lp : Int) < (lb : Int)) = false := decide_eq_false (by omega)
          have n4 : decide ((la : Int) > (lp : Int)) = false := decide_eq_false (by omega)
          have n5 : decide ((lb : Int) > (lp : Int)) = false := decide_eq_false (by omega)
          have n6 : decide (lp < la) = false := decide_eq_false (by omega)
          have n7 : decide (lp < lb) = false := decide_eq_false (by omega)
          clear g1 g2 g3 g4 hla hlp hlb hr2 hr4 m2 m3
          go_wp2_with fail
          go_big_quiet (fail)
          go_wp2_with fail
          clear y1 y2 y3 y4 z1 z2 z3 z4 n2 n3 n4 n5 n6 n7
          go_loopw [10] (fun x wi => ∃ i : Nat, i ≤ la ∧ x = .int .i64 i ∧ Hid (Below V8.heap.size V8 wi)) (fun x _ => la - (intOf x).toNat)
          case atStart => exact ⟨0, Nat.zero_le _, rfl, by first | exact HI.out | exact HI.out.drew | exact below_drewN HI.out⟩
          case round =>
            clear HI
            obtain ⟨i, hi, rfl, HI⟩ := hrel
            obtain ⟨-, y1, y2, y3, y4⟩ := RD.out wr HI.out
            have z2 := (HI.out.cell (lt_of_cell HG.out.2.1)).trans HG.out.2.1
            have z4 := (HI.out.cell (lt_of_cell HG.out.2.2.2)).trans HG.out.2.2.2
            by_cases hil : i < la
            · obtain ⟨b5, o5, e5, j0, j1, j2, j3⟩ := HO2.out i hil
              obtain ⟨b6, o6, e6, k0, k1, k2, k3⟩ := HO4.out i hil
              subst e5 e6
              have j0' := (HI.out.cell (lt_of_cell j0)).trans j0
              have j1' := (HI.out.cell (lt_of_cell j1)).trans j1
              have j2' := (HI.out.cell (lt_of_cell j2)).trans j2
              have j3' := (HI.out.cell (lt_of_cell j3)).trans j3
              have k0' := (HI.out.cell (lt_of_cell k0)).trans k0
              have k1' := (HI.out.cell (lt_of_cell k1)).trans k1
              have k2' := (HI.out.cell (lt_of_cell k2)).trans k2
              have k3' := (HI.out.cell (lt_of_cell k3)).trans k3
              have hii : (i : Int) < (la : Int) := by omega
              clear j0 j1 j2 j3 k0 k1 k2 k3
              go_wp2_with fail
              go_region
              all_goals go_wp2_with fail
              all_goals go_roundw
              case rel => exact ⟨i + 1, by omega, by go_num, by first | exact HI.out | exact HI.out.drew | exact below_drewN HI.out⟩
              case measure => simp [intOf]; omega
            · obtain rfl : la = i := by omega
              go_wp2_with fail
              go_roundw
              case rel => exact ⟨t + 1, by omega, by go_num, by first | exact HI.out | exact HI.out.drew | exact below_drewN HI.out⟩
              case measure => simp [intOf]; omega
        · obtain rfl : n = t := by omega
          obtain ⟨hwr, y1, y2, y3, y4⟩ := RD.out wr HI.out
          have HWR := Hid.out (p := Hid _) hwr
          clear hwr
          go_wp2_with fail
          go_ret
          exact ⟨rfl, HWR.out⟩
    · have hx' : (x != 0) = true := by simpa using hx
      go_wp2_with fail
      go_ret
      exact ⟨rfl, HU6.out.2.2.2.1⟩

end Go.Proofs.YtkailbdjilkneaaDoor
