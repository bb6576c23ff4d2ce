/-
  Programs that were made anew: their numbers fit, their words lie in memory.
  Whether stores that wait bring anything about, by the program: Robust.
  All that can be come to, gone through by the kernel: what is told of it.
  The fewest fences, as plain functions: they are places of stores, rising; none are wanted just of a robust program; and the two threads' own.
-/
import Derived.Test.YtelckcpjmekgcadGreatDoorPBufN
import Derived.Test.YtelckcpjmekgcadGreatDoorOcOut
import Derived.Test.YtelckcpjmekgcadGreatDoorOcSee
import Derived.Test.YtelckcpjmekgcadGreatDoorZPut
import Derived.Test.YtelckcpjmekgcadGreatDoorRMay
import Derived.Test.YtelckcpjmekgcadGreatDoorWorkP
import Derived.Test.YtelckcpjmekgcadGreatDoorFewP
import Derived.Test.YtelckcpjmekgcadGreatDoorPChk
namespace Go.Proofs.YtelckcpjmekgcadGreatDoor
section
open Go.RowKit

theorem new_fit {n m lk rg : Nat} {L : Nat → Nat} {X : Nat → Nat → Nat → Int} (hc : COk n L X m lk rg) (b : Nat → Nat → List I4) (hb : ∀ t i, t < n → i < L t → ∀ x, x ∈ b t i → x = ordAt X t i ∨ x = fenceI) (hfit : ∀ t i, t < n → i < L t → -9223372036854775808 ≤ X t i 2 ∧ X t i 2 ≤ 9223372036854775807) (hl : ∀ t, t < n → lenR b L t ≤ 1000) : ∀ t i, t < n → i < lenR b L t → -9223372036854775808 ≤ numR b L t i 2 ∧ numR b L t i 2 ≤ 9223372036854775807 := fun t i ht hi => by
  have hi' : i < (codeR (b t) (L t)).length := hi
  obtain ⟨y, hy⟩ : ∃ y, (codeR (b t) (L t)).getD i fenceI = y := ⟨_, rfl⟩
  have hmem : y ∈ codeR (b t) (L t) := by
    rw [← hy, List.getD_eq_getElem?_getD, List.getElem?_eq_getElem hi']
    exact List.getElem_mem _
  have hN : numR b L t i 2 = y.2.2.1 := by
    unfold numR nth4
    rw [hy]
    rfl
  rw [hN]
  obtain ⟨x, hx, rfl⟩ := List.mem_map.mp hmem
  obtain ⟨k, hk, hm⟩ := raw_mem hx
  have hx' := hb t k ht hk x hm
  have hled := new_led hc ht hk hx'
  have e0 : (ledO (plR (b t)) x).2.2.1 = if x.1 = 15 then (plR (b t) x.2.2.1.toNat : Int) else x.2.2.1 := rfl
  rw [e0]
  by_cases e : x.1 = 15
  · rw [if_pos e]
    have h1 := hled.2.2 e
    have h2 : plR (b t) x.2.2.1.toNat ≤ plR (b t) (L t) := pl_mono (by omega)
    have h3 := hl t ht
    unfold lenR at h3
    rw [code_len] at h3
    omega
  · rw [if_neg e]
    rcases hx' with rfl | rfl
    · exact hfit t k ht hk
    · show -9223372036854775808 ≤ (0 : Int) ∧ (0 : Int) ≤ 9223372036854775807
      omega
theorem sis_own2 {w : World} {B : Nat} {a : Option Addr} {c : Nat} {l : List Int} (h : w.ownsRow B 3 1 (.slice a l.length c) l.length (intsV l)) : SIs w a l ∧ (a = none → l = [] ∧ c = 0) := by
  refine ⟨fun k hk => ?_, fun e => ?_⟩
  · obtain ⟨g, cap, e, hg, _⟩ := fam_block h (by omega)
    simp only [Value.slice.injEq] at e
    refine ⟨g, 0, e.1, ?_⟩
    rw [Nat.zero_add]
    exact fam_cell h hg (intsV_at hk)
  · subst e
    rcases h.2 with ⟨e, _⟩ | ⟨g, cap, cur, e, _⟩
    · simp only [Value.slice.injEq, true_and] at e
      exact ⟨List.length_eq_zero_iff.mp e.1, e.2⟩
    · simp at e
/-- All that is known of a program that was made anew. -/
theorem new_open {w U V : World} {n : Nat} {words : List Int} {lk rg : Int} {b : Nat → Nat → List I4} {L : Nat → Nat} {va : Option Addr} {vc : Nat} {ua : Option Addr} {uc : Nat} (hN : NewQ w n words lk rg b L (.returned (.agg #[.slice va n vc, .slice ua words.length uc, .int .i64 lk, .int .i64 rg])) U) (hb : Below U.heap.size U V) (hn : n ≤ 4) (hl : ∀ t, t < n → lenR b L t ≤ 1000) : (∃ A C, PIn V va n A (lenR b L) C (numR b L)) ∧ SIs V ua words ∧ (ua = none → words = [] ∧ uc = 0) := by
  obtain ⟨va', vc', ua', uc', tv, he, h1, h2, h3, _⟩ := hN.below hb
  simp only [Ending.returned.injEq, Value.agg.injEq, Array.mk.injEq, List.cons.injEq, Value.slice.injEq, true_and, and_true] at he
  obtain ⟨⟨rfl, rfl⟩, rfl, rfl⟩ := he
  obtain ⟨ca', cc', A', C', e1, hpin⟩ := new_pin h1 h2 (by omega) (fun t ht => by have := hl t ht; omega)
  simp only [Value.slice.injEq, true_and] at e1
  obtain ⟨rfl, rfl⟩ := e1
  exact ⟨⟨A', C', hpin⟩, sis_own2 h3⟩
end

section
open Go.RowKit Go.Sort Go.Shelf

theorem setCell_id {w : World} {g i : Nat} {cs : Array Value} {t : TypeId} {v : Value} (h : w.heap[g]? = some (.cells cs t)) (hi : cs[i]? = some v) : w.setCell ⟨g, i, none⟩ v = w := by
  have e : (w.setCell ⟨g, i, none⟩ v).heap = w.heap := by
    apply Array.ext_getElem?
    intro k
    by_cases hk : k = g
    · subst hk
      rw [heap_set_same h, h]
      congr 2
      apply Array.ext_getElem?
      intro j
      rw [Array.getElem?_setIfInBounds]
      by_cases hj : i = j
      · subst hj
        rw [if_pos rfl, hi]
        split
        · rfl
        · rename_i hlt
          rw [Array.getElem?_eq_none (by omega)] at hi; cases hi
      · rw [if_neg hj]
    · exact Below.heap_setCell _ _ _ _ hk
  unfold World.setCell at e ⊢
  simp only at e
  rw [e]
set_option maxRecDepth 100000 in
set_option maxHeartbeats 1600000 in
/-- Two lists of outcomes are alike. -/
theorem alike_any (w : World) (a b : Option Addr) (n m c d : Nat) (r : Bool) (h : Calls Tryz.prog 33 #[.slice a n c, .slice b m d, .func (.func 34) #[] #[]] w fun e w' => e = .returned (.bool r) ∧ Below w.heap.size w w') :
    Calls Tryz.prog 16 #[.slice a n c, .slice b m d] w fun e w' => e = .returned (.bool r) ∧ Below w.heap.size w w' := by
  have HH := Hid.out (p := Hid _) h
  clear h
  go_enter Tryz.func16, Tryz.ntmps16
  go_wp2_with fail
  refine Calls.mono HH.out ?_
  rintro e w1 ⟨rfl, hb1⟩
  have H1 := Hid.out (p := Hid _) hb1
  clear HH hb1
  go_wp2_with fail
  go_ret
  exact ⟨rfl, H1.out⟩
/-- What Robust tells of a program that passed Check. -/
def RobQ (L : Nat → Nat) (X : Nat → Nat → Nat → Int) (s0 : Sx) (r : Bool) (z : Int) : Prop :=
  (∃ l1, Told (nxX L X 0) (outsX L X 0) s0 4000 true l1 ∧ r = false ∧ z = 10) ∨ ∃ l1 f2 l2, Told (nxX L X 0) (outsX L X 0) s0 4000 false l1 ∧ Told (nxX L X 1) (outsX L X 1) s0 4000 f2 l2 ∧ ((f2 = true ∧ r = false ∧ z = 10) ∨ (f2 = false ∧ r = decide (l1 = l2) ∧ z = 0))
/-- What SC and TSO tell, for those who go on with it. -/
def SpcX (W : World) (L : Nat → Nat) (X : Nat → Nat → Nat → Int) (mode : Int) (s0 : Sx) (full : Bool) (a : Option Addr) (len : Nat) (es : List En) (w' : World) : Prop :=
  Told (nxX L X mode) (outsX L X mode) s0 4000 full (es.map En.o) ∧ es.length = len ∧ EIn w' a es ∧ (∀ x, x ∈ es → EnOk w' x) ∧ len ≤ 100000 ∧ (full = true → len = 0) ∧ Below W.heap.size W w'
theorem OutQ.x {W w' : World} {L : Nat → Nat} {X : Nat → Nat → Nat → Int} {mode : Int} {s0 : Sx} {e : Ending} (h : OutQ W L X mode s0 e w') : ∃ (full : Bool) (z : Int) (a : Option Addr) (len cap : Nat) (es : List En), e = .returned (.tuple #[.slice a len cap, ints3 z 0 0]) ∧ Hid (SpcX W L X mode s0 full a len es w' ∧ z = if full then 10 else 0) := by
  obtain ⟨full, a, len, cap, es, h1, h2, h3, h4, h5, h6, h7, h8⟩ := h.spc (Below.refl _ _)
  exact ⟨full, _, a, len, cap, es, h1, ⟨h2, h3, h4, h5, h7, h6, h8⟩, rfl⟩
set_option maxRecDepth 100000 in
set_option maxHeartbeats 3200000 in
theorem robust_yes (w : World) (ca : Option Addr) (n cc : Nat) (wa : Option Addr) (wc lk rg : Nat) (words : List Int) (A : Nat → Option Addr) (L C : Nat → Nat) (X : Nat → Nat → Nat → Int) (HR : Hid (chk n L X words.length lk rg = (0, 0, 0))) (hp : PIn w ca n A L C X) (hc : COk n L X words.length lk rg) (hn0 : 0 < n) (hw : SIs w wa words) (hnil : wa = none → words = [] ∧ wc = 0) (hfit : ∀ t i, t < n → i < L t → I64n (X t i 2)) (hwf : ∀ x, x ∈ words → I64n x) (htab : TabB w.heap.size w) :
    Calls Tryz.prog 8 #[prgV ca n cc wa words.length wc lk rg] w fun e w' => ∃ r z, e = .returned (.tuple #[.bool r, ints3 z 0 0]) ∧ RobQ L X (beginX n words lk rg) r z ∧ Below w.heap.size w w' := by
  have HSC : Hid (∀ V, Below w.heap.size w V → Calls Tryz.prog 13 #[prgV ca n cc wa words.length wc lk rg] V fun e w' => ∃ (full : Bool) (z : Int) (a : Option Addr) (len cap : Nat) (es : List En), e = .returned (.tuple #[.slice a len cap, ints3 z 0 0]) ∧ Hid (SpcX V L X 0 (beginX n words lk rg) full a len es w' ∧ z = if full then 10 else 0)) := fun V hb => Calls.mono (sc_yes V ca n cc wa wc lk rg words A L C X HR (hp.below hb) hc hn0 (hw.below hb) hnil hfit hwf (htab.up hb)) fun e w' h => h.x
  have HTS : Hid (∀ V, Below w.heap.size w V → Calls Tryz.prog 17 #[prgV ca n cc wa words.length wc lk rg] V fun e w' => ∃ (full : Bool) (z : Int) (a : Option Addr) (len cap : Nat) (es : List En), e = .returned (.tuple #[.slice a len cap, ints3 z 0 0]) ∧ Hid (SpcX V L X 1 (beginX n words lk rg) full a len es w' ∧ z = if full then 10 else 0)) := fun V hb => Calls.mono (tso_yes V ca n cc wa wc lk rg words A L C X HR (hp.below hb) hc hn0 (hw.below hb) hnil hfit hwf (htab.up hb)) fun e w' h => h.x
  obtain ⟨s0, hs0⟩ : ∃ s0, beginX n words lk rg = s0 := ⟨_, rfl⟩
  rw [hs0] at HSC HTS ⊢
  obtain ⟨m, hmm⟩ : ∃ k, words.length = k := ⟨_, rfl⟩
  rw [hmm] at HSC HTS ⊢
  clear HR hp hc hn0 hw hnil hfit hwf htab hs0 hmm
  obtain ⟨PB, hPB⟩ : ∃ o : Obj, o = .cells #[.slice ca n cc, .slice wa m wc, .int .i64 (lk : Int), .int .i64 (rg : Int)] 25 := ⟨_, rfl⟩
  obtain ⟨W0, hW0⟩ : ∃ V, V = (w.alloc PB).alloc (.cells #[.int .i64 0, .int .i64 0, .int .i64 0] 29) := ⟨_, rfl⟩
  have hz0 : W0.heap.size = w.heap.size + 1 + 1 := by rw [hW0]; simp
  have hb0 : Below w.heap.size w W0 := by rw [hW0]; exact ((Below.refl _ _).alloc (Nat.le_refl _) _).alloc (by simp) _
  have hp0 : W0.heap[w.heap.size]? = some PB := by rw [hW0]; exact box_later (heap_alloc_new _ _) _
  have hf0 : W0.heap[w.heap.size + 1]? = some (.cells #[.int .i64 0, .int .i64 0, .int .i64 0] 29) := by
    have := heap_alloc_new (w.alloc PB) (.cells #[.int .i64 0, .int .i64 0, .int .i64 0] 29)
    rw [World.size_alloc] at this
    rw [hW0]; exact this
  have HW0 : Hid ((w.alloc (.cells #[.slice ca n cc, .slice wa m wc, .int .i64 (lk : Int), .int .i64 (rg : Int)] 25)).alloc (.cells #[.int .i64 0, .int .i64 0, .int .i64 0] 29) = W0) := by rw [hW0, hPB]; exact rfl
  have HAT : Hid (∀ V, Below W0.heap.size W0 V → (V.cell? ⟨w.heap.size, 0, none⟩ = some (.slice ca n cc) ∧ V.cell? ⟨w.heap.size, 1, none⟩ = some (.slice wa m wc) ∧ V.cell? ⟨w.heap.size, 2, none⟩ = some (.int .i64 (lk : Int)) ∧ V.cell? ⟨w.heap.size, 3, none⟩ = some (.int .i64 (rg : Int))) ∧ (V.cell? ⟨w.heap.size + 1, 0, none⟩ = some (.int .i64 0) ∧ V.cell? ⟨w.heap.size + 1, 1, none⟩ = some (.int .i64 0) ∧ V.cell? ⟨w.heap.size + 1, 2, none⟩ = some (.int .i64 0)) ∧ (∀ i, V.frozen? ⟨w.heap.size + 1, i, none⟩ = false) ∧ Below w.heap.size w V) := fun V hb => by
    have e1 := (hb.block w.heap.size (by omega)).trans hp0
    have e2 := (hb.block (w.heap.size + 1) (by omega)).trans hf0
    rw [hPB] at e1
    exact ⟨⟨box_cell e1 rfl, box_cell e1 rfl, box_cell e1 rfl, box_cell e1 rfl⟩, ⟨box_cell e2 rfl, box_cell e2 rfl, box_cell e2 rfl⟩, fun i => box_free e2, hb0.trans (hb.mono hb0.size)⟩
  have HB0 := Hid.out (p := Hid _) hb0
  clear hPB hW0 hp0 hf0 hb0
  go_enter Tryz.func8, Tryz.ntmps8
  go_wp2_with fail
  rw [HW0.out]
  refine Calls.mono (HSC.out _ HB0.out) ?_
  rintro e w1 ⟨full1, z1, a1, n1, c1, es1, rfl, H1⟩
  have hb1 : Below W0.heap.size W0 w1 := H1.out.1.2.2.2.2.2.2
  have hup := fun o => HAT.out (w1.alloc o) (hb1.alloc hb1.size o)
  have p0 := fun o => (hup o).1.1
  have p1 := fun o => (hup o).1.2.1
  have p2 := fun o => (hup o).1.2.2.1
  have p3 := fun o => (hup o).1.2.2.2
  have f0 := fun o => (hup o).2.1.1
  have f1 := fun o => (hup o).2.1.2.1
  have f2 := fun o => (hup o).2.1.2.2
  have ff := fun o => (hup o).2.2.1
  have hsz1 : w.heap.size + 1 + 1 ≤ w1.heap.size := by have := hb1.size; omega
  have n1' : w1.heap.size ≠ w.heap.size + 1 := by omega
  have n2' : w.heap.size + 1 ≠ w1.heap.size := by omega
  have HW1 : Hid (Below W0.heap.size W0 w1 ∧ ∀ o, Below w.heap.size w (w1.alloc o)) := ⟨hb1, fun o => (hup o).2.2.2⟩
  clear HSC HW0 hb1 hup
  cases full1 with
  | true =>
    obtain rfl : z1 = 10 := H1.out.2
    have HQ : Hid (RobQ L X s0 false 10) := Or.inl ⟨_, H1.out.1.1, rfl, rfl⟩
    have HBB : Hid (Below w.heap.size w (w1.alloc (.cells #[.int .i64 10, .int .i64 0, .int .i64 0] 29))) := HW1.out.2 _
    clear H1 HW1 HTS p0 p1 p2 p3
    go_wp2_with fail
    go_region
    all_goals go_wp2
    all_goals refine bodyPost_ret (v := .tuple #[.bool false, ints3 10 0 0]) (by simp [results, Tryz.results8, go_sem, cell_set, f0, f1, f2]) rfl ⟨false, 10, rfl, HQ.out, ?_⟩
    all_goals exact ((HBB.out.drew.setCell (Nat.le_succ _) _).setCell (Nat.le_succ _) _).setCell (Nat.le_succ _) _
  | false =>
    obtain rfl : z1 = 0 := H1.out.2
    go_wp2_with fail
    obtain ⟨V, hV⟩ : ∃ V, w1.alloc (.cells #[.int .i64 0, .int .i64 0, .int .i64 0] 29) = V := ⟨_, rfl⟩
    rw [hV]
    have hbV : Below w1.heap.size w1 V := by rw [← hV]; exact (Below.refl _ _).alloc (Nat.le_refl _) _
    have hwV : Below w.heap.size w V := by rw [← hV]; exact HW1.out.2 _
    have hfV : V.heap[w1.heap.size]? = some (.cells #[.int .i64 0, .int .i64 0, .int .i64 0] 29) := by rw [← hV]; exact heap_alloc_new _ _
    refine Calls.mono (HTS.out _ hwV) ?_
    rintro e w2 ⟨full2, z2, a2, n2, c2, es2, rfl, H2⟩
    have hb2 : Below V.heap.size V w2 := H2.out.1.2.2.2.2.2.2
    have hb12 : Below w1.heap.size w1 w2 := hbV.trans (hb2.mono hbV.size)
    have hb02 : Below W0.heap.size W0 w2 := HW1.out.1.trans (hb12.mono HW1.out.1.size)
    obtain ⟨_, ⟨h0, h1, h2⟩, hh, hw2⟩ := HAT.out w2 hb02
    have hf2 : w2.heap[w1.heap.size]? = some (.cells #[.int .i64 0, .int .i64 0, .int .i64 0] 29) := (hb2.block _ (box_lt hfV)).trans hfV
    have g0 : w2.cell? ⟨w1.heap.size, 0, none⟩ = some (.int .i64 0) := box_cell hf2 rfl
    have g1 : w2.cell? ⟨w1.heap.size, 1, none⟩ = some (.int .i64 0) := box_cell hf2 rfl
    have g2 : w2.cell? ⟨w1.heap.size, 2, none⟩ = some (.int .i64 0) := box_cell hf2 rfl
    have gf : ∀ i, w2.frozen? ⟨w1.heap.size, i, none⟩ = false := fun i => box_free hf2
    have HSET : Hid (∀ x y u, Below w.heap.size w (((w2.setCell ⟨w1.heap.size, 0, none⟩ x).setCell ⟨w1.heap.size, 1, none⟩ y).setCell ⟨w1.heap.size, 2, none⟩ u) ∧ ∀ k, k ≠ w1.heap.size → (((w2.setCell ⟨w1.heap.size, 0, none⟩ x).setCell ⟨w1.heap.size, 1, none⟩ y).setCell ⟨w1.heap.size, 2, none⟩ u).heap[k]? = w2.heap[k]?) := fun x y u => ⟨((hw2.setCell (by show w.heap.size ≤ w1.heap.size; omega) _).setCell (by show w.heap.size ≤ w1.heap.size; omega) _).setCell (by show w.heap.size ≤ w1.heap.size; omega) _, fun k hk => by rw [Below.heap_setCell _ _ _ _ hk, Below.heap_setCell _ _ _ _ hk, Below.heap_setCell _ _ _ _ hk]⟩
    have HF2 := Hid.out (p := Hid _) (And.intro hf2 (And.intro hb12 (And.intro hb2 hb02)))
    clear HTS p0 p1 p2 p3 f0 f1 f2 ff hV hbV hwV hfV hb2 hb12 hb02 hw2 hf2
    cases full2 with
    | true =>
      obtain rfl : z2 = 10 := H2.out.2
      have HQ : Hid (RobQ L X s0 false 10) := Or.inr ⟨_, _, _, H1.out.1.1, H2.out.1.1, Or.inl ⟨rfl, rfl, rfl⟩⟩
      obtain ⟨V3, hV3⟩ : ∃ V3, ((w2.setCell ⟨w1.heap.size, 0, none⟩ (.int .i64 10)).setCell ⟨w1.heap.size, 1, none⟩ (.int .i64 0)).setCell ⟨w1.heap.size, 2, none⟩ (.int .i64 0) = V3 := ⟨_, rfl⟩
      have HV3 := Hid.out (p := Hid _) hV3
      have hb3 : Below w.heap.size w V3 := by rw [← hV3]; exact (HSET.out _ _ _).1
      have HB3 := Hid.out (p := Hid _) hb3
      have e3 : V3.heap[w1.heap.size]? = some (.cells #[.int .i64 10, .int .i64 0, .int .i64 0] 29) := by
        rw [← hV3]
        exact heap_set_same (heap_set_same (heap_set_same HF2.out.1))
      have e4 : V3.heap[w.heap.size + 1]? = w2.heap[w.heap.size + 1]? := by rw [← hV3]; exact (HSET.out _ _ _).2 _ n2'
      have k0 : V3.cell? ⟨w1.heap.size, 0, none⟩ = some (.int .i64 10) := box_cell e3 rfl
      have k1 : V3.cell? ⟨w1.heap.size, 1, none⟩ = some (.int .i64 0) := box_cell e3 rfl
      have k2 : V3.cell? ⟨w1.heap.size, 2, none⟩ = some (.int .i64 0) := box_cell e3 rfl
      have m0 : V3.cell? ⟨w.heap.size + 1, 0, none⟩ = some (.int .i64 0) := (World.cell?_of_block e4).trans h0
      have m1 : V3.cell? ⟨w.heap.size + 1, 1, none⟩ = some (.int .i64 0) := (World.cell?_of_block e4).trans h1
      have m2 : V3.cell? ⟨w.heap.size + 1, 2, none⟩ = some (.int .i64 0) := (World.cell?_of_block e4).trans h2
      have mf : ∀ i, V3.frozen? ⟨w.heap.size + 1, i, none⟩ = false := fun i => (World.frozen?_of_block e4).trans (hh i)
      clear H1 H2 HW1 HF2 HAT hV3 hb3 e3 e4
      go_wp2_with fail
      rw [HV3.out]
      clear h0 h1 h2 hh g0 g1 g2 gf HSET HV3
      go_region
      all_goals go_wp2
      all_goals refine bodyPost_ret (v := .tuple #[.bool false, ints3 10 0 0]) (by simp [results, Tryz.results8, go_sem, cell_set, m0, m1, m2]) rfl ⟨false, 10, rfl, HQ.out, ?_⟩
      all_goals exact ((HB3.out.drew.setCell (Nat.le_succ _) _).setCell (Nat.le_succ _) _).setCell (Nat.le_succ _) _
    | false =>
      obtain rfl : z2 = 0 := H2.out.2
      have hid : ((w2.setCell ⟨w1.heap.size, 0, none⟩ (.int .i64 0)).setCell ⟨w1.heap.size, 1, none⟩ (.int .i64 0)).setCell ⟨w1.heap.size, 2, none⟩ (.int .i64 0) = w2 := by
        rw [setCell_id HF2.out.1 rfl, setCell_id HF2.out.1 rfl, setCell_id HF2.out.1 rfl]
      have HID := Hid.out (p := Hid _) hid
      have HEQ : Hid (Calls Tryz.prog 16 #[.slice a1 n1 c1, .slice a2 n2 c2] w2 fun e w' => e = .returned (.bool (decide (es1.map En.o = es2.map En.o))) ∧ Below w2.heap.size w2 w') := by
        have x1 := H1.out.1
        have x2 := H2.out.1
        have h := equal_any w2 a1 a2 es1 es2 c1 c2 (x1.2.2.1.below HF2.out.2.1) x2.2.2.1 (fun x hx => (x1.2.2.2.1 x hx).below HF2.out.2.1) x2.2.2.2.1 (by rw [x1.2.1]; exact x1.2.2.2.2.1) (by rw [x2.2.1]; exact x2.2.2.2.2.1)
        rw [x1.2.1, x2.2.1] at h
        exact alike_any w2 a1 a2 n1 n2 c1 c2 _ h
      have HQ : Hid (RobQ L X s0 (decide (es1.map En.o = es2.map En.o)) 0) := Or.inr ⟨_, _, _, H1.out.1.1, H2.out.1.1, Or.inr ⟨rfl, rfl, rfl⟩⟩
      obtain ⟨r, hr⟩ : ∃ r, decide (es1.map En.o = es2.map En.o) = r := ⟨_, rfl⟩
      rw [hr] at HEQ HQ
      clear H1 H2 HW1 hid hr HSET
      go_wp2_with fail
      rw [HID.out]
      refine Calls.mono HEQ.out ?_
      rintro e w3 ⟨rfl, hb3⟩
      obtain ⟨_, ⟨j0, j1, j2⟩, jj, hw3⟩ := HAT.out w3 (HF2.out.2.2.2.trans (hb3.mono HF2.out.2.2.2.size))
      have HW3 := Hid.out (p := Hid _) hw3
      clear HEQ HID HAT HF2 hb3 hw3 h0 h1 h2 hh g0 g1 g2 gf
      go_wp2_with fail
      refine bodyPost_ret (v := .tuple #[.bool r, ints3 0 0 0]) (by simp [results, Tryz.results8, go_sem, cell_set, j0, j1, j2]) rfl ⟨r, 0, rfl, HQ.out, ?_⟩
      exact ((HW3.out.setCell (Nat.le_succ _) _).setCell (Nat.le_succ _) _).setCell (Nat.le_succ _) _
end

section
open Go.RowKit

section
variable {S : Type} [DecidableEq S]
/-- All that can be come to, gone through: what is still to be looked at, what is known. -/
def goK (nx : S → List S) : Nat → List S → List S → List S
  | 0, _, k => k
  | _ + 1, [], k => k
  | f + 1, s :: r, k =>
    let new := (nx s).foldl (fun l t => if t ∈ k ∨ t ∈ l then l else l ++ [t]) []
    goK nx f (r ++ new) (k ++ new)
theorem new_mem {k : List S} : ∀ {l a : List S} {x : S}, x ∈ l.foldl (fun l t => if t ∈ k ∨ t ∈ l then l else l ++ [t]) a → x ∈ a ∨ x ∈ l
  | [], a, x, h => Or.inl h
  | b :: l, a, x, h => by
    rw [List.foldl_cons] at h
    rcases new_mem h with h1 | h1
    · split at h1
      · exact Or.inl h1
      · rw [List.mem_append] at h1
        rcases h1 with h1 | h1
        · exact Or.inl h1
        · rw [List.mem_singleton.mp h1]; exact Or.inr (by simp)
    · exact Or.inr (by simp [h1])
theorem go_reach {nx : S → List S} {s0 : S} : ∀ {f : Nat} {r k : List S}, (∀ s, s ∈ r → Rch nx s0 s) → (∀ s, s ∈ k → Rch nx s0 s) → ∀ s, s ∈ goK nx f r k → Rch nx s0 s
  | 0, _, _, _, h2 => h2
  | _ + 1, [], _, _, h2 => h2
  | f + 1, s :: r, k, h1, h2 => by
    have hn : ∀ x, x ∈ (nx s).foldl (fun l t => if t ∈ k ∨ t ∈ l then l else l ++ [t]) [] → Rch nx s0 x := fun x hx => by
      rcases new_mem hx with h | h
      · cases h
      · exact (h1 s (by simp)).step h
    refine go_reach (f := f) (fun x hx => ?_) (fun x hx => ?_)
    · rw [List.mem_append] at hx
      exact hx.elim (fun h => h1 x (by simp [h])) (hn x)
    · rw [List.mem_append] at hx
      exact hx.elim (h2 x) (hn x)
def closedK (nx : S → List S) (k : List S) : Bool := k.all fun s => (nx s).all fun t => decide (t ∈ k)
theorem nodup_of : ∀ l : List S, ∃ r : List S, r.Nodup ∧ (∀ x, x ∈ r ↔ x ∈ l) ∧ r.length ≤ l.length
  | [] => ⟨[], List.nodup_nil, fun _ => Iff.rfl, Nat.le_refl _⟩
  | a :: l => by
    obtain ⟨r, h1, h2, h3⟩ := nodup_of l
    by_cases h : a ∈ r
    · exact ⟨r, h1, fun x => by rw [h2, List.mem_cons]; exact ⟨Or.inr, fun e => e.elim (fun e => by rw [e]; exact (h2 a).mp h) id⟩, by simp; omega⟩
    · exact ⟨a :: r, List.nodup_cons.mpr ⟨h, h1⟩, fun x => by rw [List.mem_cons, List.mem_cons, h2], by simp; omega⟩
theorem go_more {nx : S → List S} {s : S} : ∀ {f : Nat} {r k : List S}, s ∈ k → s ∈ goK nx f r k
  | 0, _, _, h => h
  | _ + 1, [], _, h => h
  | f + 1, _ :: _, _, h => go_more (f := f) (List.mem_append.mpr (Or.inl h))
/-- What is told where all was gone through. -/
theorem told_of {nx : S → List S} {outs : S → List Oc} {s0 : S} {mx f : Nat} (hcl : closedK nx (goK nx f [s0] [s0]) = true) (hk : (goK nx f [s0] [s0]).length ≤ mx) : Told nx outs s0 mx false (((goK nx f [s0] [s0]).flatMap outs).foldr insO []) := by
  have hr : ∀ s, s ∈ goK nx f [s0] [s0] → Rch nx s0 s := go_reach (fun x hx => by rw [List.mem_singleton.mp hx]; exact .base) (fun x hx => by rw [List.mem_singleton.mp hx]; exact .base)
  have hall : ∀ s, Rch nx s0 s → s ∈ goK nx f [s0] [s0] := fun s hs => by
    induction hs with
    | base => exact go_more (by simp)
    | step _ ht ih =>
      unfold closedK at hcl
      rw [List.all_eq_true] at hcl
      have := hcl _ ih
      rw [List.all_eq_true] at this
      simpa using this _ ht
  obtain ⟨r, n1, n2, n3⟩ := nodup_of (goK nx f [s0] [s0])
  refine Or.inr ⟨rfl, ?_, fun o => ?_, r, n1, fun s => (n2 s).trans ⟨hr s, hall s⟩, by omega⟩
  · have : ∀ l : List Oc, SortedO (l.foldr insO []) := fun l => by
      induction l with
      | nil => exact List.Pairwise.nil
      | cons a l ih => exact sorted_insO ih
    exact this _
  · have : ∀ l : List Oc, o ∈ l.foldr insO [] ↔ o ∈ l := fun l => by
      induction l with
      | nil => exact Iff.rfl
      | cons a l ih => rw [List.foldr_cons, mem_insO, ih, List.mem_cons]
    rw [this, List.mem_flatMap]
    exact ⟨fun ⟨s, h1, h2⟩ => ⟨s, hr s h1, h2⟩, fun ⟨s, h1, h2⟩ => ⟨s, hall s h1, h2⟩⟩
end
end

section
open Go.RowKit

theorem FewR.zero {T : List Pl → Bool → List Oc → Prop} {sc : List Oc} {Q : List (List Pl)} {P : List Pl} {z : Int} (h : FewR T sc Q P z) (hz : z = 0) : (P ∈ Q ∧ T P false sc) ∨ (P = [] ∧ ∀ S, S ∈ Q → ∃ l, T S false l ∧ l ≠ sc) := by
  induction h with
  | done => exact .inr ⟨rfl, fun S hS => by cases hS⟩
  | full _ => cases hz
  | hit h => exact .inl ⟨List.mem_cons_self, h⟩
  | next h1 h2 _ ih =>
    rcases ih hz with ⟨g1, g2⟩ | ⟨g1, g2⟩
    · exact .inl ⟨List.mem_cons_of_mem _ g1, g2⟩
    · refine .inr ⟨g1, fun S hS => ?_⟩
      rcases List.mem_cons.1 hS with rfl | hS
      · exact ⟨_, h1, h2⟩
      · exact g2 S hS
theorem choose_len : ∀ (k : Nat) (l : List Pl) (s : List Pl), s ∈ chooseL k l → s.length = k
  | 0, l, s, h => by
    rw [chooseL] at h
    rw [List.mem_singleton.1 h]
    rfl
  | _ + 1, [], _, h => by cases h
  | k + 1, x :: l, s, h => by
    rcases List.mem_append.1 h with h | h
    · obtain ⟨s', h', rfl⟩ := List.mem_map.1 h
      rw [List.length_cons, choose_len k l s' h']
    · exact choose_len (k + 1) l s h
theorem sets_len (l : List Pl) : ∀ (f k : Nat) (s : List Pl), s ∈ setsF l f k → k ≤ s.length
  | 0, _, _, h => by cases h
  | f + 1, k, s, h => by
    rcases List.mem_append.1 h with h | h
    · rw [choose_len k l s h]
      exact Nat.le_refl _
    · have := sets_len l f (k + 1) s h
      omega
/-- Places that are told are places of stores, rising. -/
theorem few_places {n : Nat} {L : Nat → Nat} {X : Nat → Nat → Nat → Int} {words : List Int} {lk rg : Nat} {P : List Pl} {z : Int} (h : FewQ n L X words lk rg P z) : (∀ x, x ∈ P → x.1 < n ∧ x.2 < L x.1 ∧ wtO (X x.1 x.2 0) = true) ∧ P.Pairwise RiseP := by
  have key : P.Sublist (plA L X n) → (∀ x, x ∈ P → x.1 < n ∧ x.2 < L x.1 ∧ wtO (X x.1 x.2 0) = true) ∧ P.Pairwise RiseP := fun hs => ⟨fun x hx => plA_mem.1 (hs.subset hx), (plA_rise n).sublist hs⟩
  have hnil : ([] : List Pl).Sublist (plA L X n) := List.nil_sublist _
  rcases h with ⟨_, rfl, _⟩ | ⟨_, ⟨_, _, rfl, _⟩ | ⟨sc, _, h⟩⟩
  · exact key hnil
  · exact key hnil
  · refine key ?_
    have : ∀ {Q : List (List Pl)} {P : List Pl} {z : Int}, FewR (ToldS n L X words lk rg) sc Q P z → P = [] ∨ P ∈ Q := fun h => by
      induction h with
      | done => exact .inl rfl
      | full _ => exact .inl rfl
      | hit _ => exact .inr List.mem_cons_self
      | next _ _ _ ih => exact ih.imp id (List.mem_cons_of_mem _)
    rcases this h with rfl | hm
    · exact hnil
    · exact sets_sub _ _ _ P hm
/-- None are wanted just of a robust program. -/
theorem few_robust {n : Nat} {L : Nat → Nat} {X : Nat → Nat → Nat → Int} {words : List Int} {lk rg : Nat} {P : List Pl} {r : Bool} {z : Int} (hN : NormP n L X) (hc : COk n L X words.length lk rg) (h : FewQ n L X words lk rg P 0) (hr : RobQ L X (beginX n words lk rg) r z) : z = 0 ∧ r = decide (P.length = 0) := by
  obtain ⟨e1, e2⟩ := set_none hN hc
  have hT : ∀ f l, ToldS n L X words lk rg [] f l ↔ Told (nxX L X 1) (outsX L X 1) (beginX n words lk rg) 4000 f l := fun f l => by
    unfold ToldS
    rw [e1, e2]
  rcases h with ⟨_, _, h⟩ | ⟨_, ⟨_, _, _, h⟩ | ⟨sc, hsc, h⟩⟩
  · cases h
  · cases h
  have hz := h.zero rfl
  have hne : ∃ f2 l2, Told (nxX L X 1) (outsX L X 1) (beginX n words lk rg) 4000 f2 l2 ∧ f2 = false ∧ (decide (sc = l2) = decide (P.length = 0)) := by
    rw [sets_nil] at h hz
    cases h with
    | hit h1 => exact ⟨false, sc, (hT _ _).1 h1, rfl, by simp⟩
    | next h1 h2 h3 =>
      refine ⟨false, _, (hT _ _).1 h1, rfl, ?_⟩
      rw [decide_eq_false (fun e => h2 e.symm), Eq.comm, decide_eq_false_iff_not]
      intro hl
      have hP : P = [] := List.eq_nil_of_length_eq_zero hl
      rcases h3.zero rfl with ⟨g1, _⟩ | ⟨_, g2⟩
      · have := sets_len _ _ _ P g1
        omega
      · have hall : ∃ l, ToldS n L X words lk rg (plA L X n) false l ∧ l ≠ sc := by
          have hm := sets_all (plA L X n)
          rw [sets_nil] at hm
          rcases List.mem_cons.1 hm with he | hm
          · rw [he]; exact ⟨_, h1, h2⟩
          · exact g2 _ hm
        obtain ⟨l, k1, k2⟩ := hall
        unfold ToldS at k1
        rw [set_full hN] at k1
        exact k2 (full_same hc hsc k1).symm
  obtain ⟨f2, l2, ht2, rfl, hd⟩ := hne
  rcases hr with ⟨l, k1, _, _⟩ | ⟨l1', f2', l2', k1, k2, ⟨k3, _, _⟩ | ⟨_, k4, k5⟩⟩
  · exact absurd (told_same hsc k1).1 (by decide)
  · rw [k3] at k2
    exact absurd (told_same ht2 k2).1 (by decide)
  · have g1 := (told_same hsc k1).2 rfl
    have g2 := (told_same ht2 k2).2 rfl
    rw [← g1, ← g2] at k4
    exact ⟨k5, k4.trans hd⟩

/-! The two threads' own. -/
def bufS (S : List Pl) : List Sx := goK (nxX (lenR (bSet bufX S) bufL) (numR (bSet bufX S) bufL) 1) 1000 [beginX 2 [0, 0] 0 2] [beginX 2 [0, 0] 0 2]
def bufO (S : List Pl) : List Oc := ((bufS S).flatMap (outsX (lenR (bSet bufX S) bufL) (numR (bSet bufX S) bufL) 1)).foldr insO []
def bufSc : List Sx := goK (nxX bufL bufX 0) 1000 [beginX 2 [0, 0] 0 2] [beginX 2 [0, 0] 0 2]
def bufOc : List Oc := (bufSc.flatMap (outsX bufL bufX 0)).foldr insO []
theorem buf_toldS {S : List Pl} (h : (closedK (nxX (lenR (bSet bufX S) bufL) (numR (bSet bufX S) bufL) 1) (bufS S) && decide ((bufS S).length ≤ 4000)) = true) : ToldS 2 bufL bufX [0, 0] 0 2 S false (bufO S) := by
  simp only [Bool.and_eq_true, decide_eq_true_eq] at h
  exact told_of h.1 h.2
theorem buf_k0 : (closedK (nxX (lenR (bSet bufX []) bufL) (numR (bSet bufX []) bufL) 1) (bufS []) && decide ((bufS []).length ≤ 4000)) = true := by decide +kernel
theorem buf_k1 : (closedK (nxX (lenR (bSet bufX [(0, 1)]) bufL) (numR (bSet bufX [(0, 1)]) bufL) 1) (bufS [(0, 1)]) && decide ((bufS [(0, 1)]).length ≤ 4000)) = true := by decide +kernel
theorem buf_k2 : (closedK (nxX (lenR (bSet bufX [(1, 1)]) bufL) (numR (bSet bufX [(1, 1)]) bufL) 1) (bufS [(1, 1)]) && decide ((bufS [(1, 1)]).length ≤ 4000)) = true := by decide +kernel
theorem buf_n0 : bufO [] ≠ bufOc := by decide +kernel
theorem buf_n1 : bufO [(0, 1)] ≠ bufOc := by decide +kernel
theorem buf_n2 : bufO [(1, 1)] ≠ bufOc := by decide +kernel
set_option maxHeartbeats 1600000 in
theorem buf_few : FewQ 2 bufL bufX [0, 0] 0 2 [(0, 1), (1, 1)] 0 := by
  have hpl : plA bufL bufX 2 = [(0, 1), (1, 1)] := by decide +kernel
  refine .inr ⟨by rw [hpl]; decide, .inr ⟨bufOc, ?_, ?_⟩⟩
  · have h : (closedK (nxX bufL bufX 0) bufSc && decide (bufSc.length ≤ 4000)) = true := by decide +kernel
    simp only [Bool.and_eq_true, decide_eq_true_eq] at h
    exact told_of h.1 h.2
  · rw [hpl]
    show FewR _ _ [[], [(0, 1)], [(1, 1)], [(0, 1), (1, 1)]] _ _
    have e : bufO [(0, 1), (1, 1)] = bufOc := by decide +kernel
    have h3 : ToldS 2 bufL bufX [0, 0] 0 2 [(0, 1), (1, 1)] false bufOc := by
      rw [← e]
      exact buf_toldS (S := [(0, 1), (1, 1)]) (by decide +kernel)
    exact .next (buf_toldS (S := []) buf_k0) buf_n0 (.next (buf_toldS (S := [(0, 1)]) buf_k1) buf_n1 (.next (buf_toldS (S := [(1, 1)]) buf_k2) buf_n2 (.hit h3)))
end

end Go.Proofs.YtelckcpjmekgcadGreatDoor
