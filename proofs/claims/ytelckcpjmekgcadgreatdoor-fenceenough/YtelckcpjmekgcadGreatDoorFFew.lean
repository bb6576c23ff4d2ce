/-
  The fewest fences, by the program.
-/
import Derived.Test.YtelckcpjmekgcadGreatDoorFWait
import Derived.Test.YtelckcpjmekgcadGreatDoorPChk
namespace Go.Proofs.YtelckcpjmekgcadGreatDoor
open Go.RowKit Go.Sort Go.Shelf

attribute [local go_sem] Oper.semAt_some

/-- What is known when the search is over. -/
structure FwF (w V : World) (n : Nat) (L : Nat → Nat) (X : Nat → Nat → Nat → Int) (words : List Int) (lk rg : Nat) (a : Option Addr) (c : Nat) (P : List Pl) (z : Int) : Prop where
  hr : V.heap[w.heap.size + 1]? = some (.cells #[.slice a P.length c] 26)
  hf : V.heap[w.heap.size + 1 + 1]? = some (.cells #[.int .i64 z, .int .i64 0, .int .i64 0] 29)
  q : FewQ n L X words lk rg P z
  pl : PlIn V a P
  len : P.length ≤ 6
  low : Below w.heap.size w V
  far : ∀ b o, a = some ⟨b, o, none⟩ → 0 < P.length → w.heap.size ≤ b
theorem plIn_put {V : World} {a : Option Addr} {P : List Pl} (h : PlIn V a P) {l : Nat} {o o' : Obj} (hl : V.heap[l]? = some o') (hc : o'.isCells = false) : PlIn (V.putObj l o) a P := fun k hk => by
  obtain ⟨b, q, e, c1, c2⟩ := h k hk
  have hne : b ≠ l := fun e2 => by
    rw [e2] at c1
    unfold World.cell? at c1
    rw [hl] at c1
    cases o' <;> simp_all [Obj.isCells]
  exact ⟨b, q, e, (World.cell?_of_block (World.putObj_heap_other hne)).trans c1, (World.cell?_of_block (World.putObj_heap_other hne)).trans c2⟩
theorem FwF.put {w V : World} {n : Nat} {L : Nat → Nat} {X : Nat → Nat → Nat → Int} {words : List Int} {lk rg : Nat} {a : Option Addr} {c : Nat} {P : List Pl} {z : Int} (h : FwF w V n L X words lk rg a c P z) {l : Nat} {o o' : Obj} (hl : V.heap[l]? = some o') (hc : o'.isCells = false) (hw : w.heap.size + 1 + 1 < l) : FwF w (V.putObj l o) n L X words lk rg a c P z :=
  ⟨(World.putObj_heap_other (by omega)).trans h.hr, (World.putObj_heap_other (by omega)).trans h.hf, h.q, plIn_put h.pl hl hc, h.len, h.low.trans (below_put _ _ (by omega)), h.far⟩
/-- What is handed back is laid down. -/
abbrev fwSet (w V : World) (sv : Value) (z : Int) : World := (((V.setCell ⟨w.heap.size + 1, 0, none⟩ sv).setCell ⟨w.heap.size + 1 + 1, 0, none⟩ (.int .i64 z)).setCell ⟨w.heap.size + 1 + 1, 1, none⟩ (.int .i64 0)).setCell ⟨w.heap.size + 1 + 1, 2, none⟩ (.int .i64 0)
theorem fw_set {w V : World} {ca : Option Addr} {n cc : Nat} {wa : Option Addr} {m wc : Nat} {lk rg : Int} (h : FwB w V ca n cc wa m wc lk rg) (sv : Value) (z : Int) : (fwSet w V sv z).heap[w.heap.size + 1]? = some (.cells #[sv] 26) ∧ (fwSet w V sv z).heap[w.heap.size + 1 + 1]? = some (.cells #[.int .i64 z, .int .i64 0, .int .i64 0] 29) ∧ (∀ k, k ≠ w.heap.size + 1 → k ≠ w.heap.size + 1 + 1 → (fwSet w V sv z).heap[k]? = V.heap[k]?) ∧ Below w.heap.size w (fwSet w V sv z) ∧ (fwSet w V sv z).heap.size = V.heap.size := by
  refine ⟨?_, ?_, fun k h1 h2 => ?_, ?_, by simp [fwSet, World.setCell]⟩
  · rw [Below.heap_setCell _ _ _ _ (by show w.heap.size + 1 ≠ w.heap.size + 1 + 1; omega), Below.heap_setCell _ _ _ _ (by show w.heap.size + 1 ≠ w.heap.size + 1 + 1; omega), Below.heap_setCell _ _ _ _ (by show w.heap.size + 1 ≠ w.heap.size + 1 + 1; omega)]
    exact heap_set_same h.hr
  · have e : (V.setCell ⟨w.heap.size + 1, 0, none⟩ sv).heap[w.heap.size + 1 + 1]? = some (.cells #[.int .i64 0, .int .i64 0, .int .i64 0] 29) := by
      rw [Below.heap_setCell _ _ _ _ (by show w.heap.size + 1 + 1 ≠ w.heap.size + 1; omega)]
      exact h.hf
    exact heap_set_same (heap_set_same (heap_set_same e))
  · rw [Below.heap_setCell _ _ _ _ h2, Below.heap_setCell _ _ _ _ h2, Below.heap_setCell _ _ _ _ h2, Below.heap_setCell _ _ _ _ h1]
  · exact (((h.low.setCell (by show w.heap.size ≤ w.heap.size + 1; omega) _).setCell (by show w.heap.size ≤ w.heap.size + 1 + 1; omega) _).setCell (by show w.heap.size ≤ w.heap.size + 1 + 1; omega) _).setCell (by show w.heap.size ≤ w.heap.size + 1 + 1; omega) _
/-- What is known while sets are looked at. -/
def FwI (S0 : World) (n : Nat) (L : Nat → Nat) (X : Nat → Nat → Nat → Int) (words : List Int) (lk rg : Nat) (sc : List Oc) (Ls : List (List Pl)) (V : World) : Prop :=
  Below S0.heap.size S0 V ∧ (∀ S, S ∈ Ls → S.length ≤ 6) ∧ ∀ P z, FewR (ToldS n L X words lk rg) sc Ls P z → FewR (ToldS n L X words lk rg) sc (setsL (plA L X n)) P z

set_option maxRecDepth 100000 in
set_option maxHeartbeats 1600000 in
theorem few_main (w : World) (ca : Option Addr) (n cc : Nat) (wa : Option Addr) (wc lk rg : Nat) (words : List Int) (A : Nat → Option Addr) (L C : Nat → Nat) (X : Nat → Nat → Nat → Int) (hR : chk n L X words.length lk rg = (0, 0, 0)) (hp : PIn w ca n A L C X) (hc : COk n L X words.length lk rg) (hn0 : 0 < n) (hw : SIs w wa words) (hnil : wa = none → words = [] ∧ wc = 0) (hfit : ∀ t i, t < n → i < L t → I64n (X t i 2)) (hwf : ∀ x, x ∈ words → I64n x) (htab : TabB w.heap.size w) (h6 : (plA L X n).length ≤ 6) (ht : ∀ l0, ¬ Told (nxX L X 0) (outsX L X 0) (beginX n words lk rg) 4000 true l0) :
    Calls Tryz.prog 5 #[prgV ca n cc wa words.length wc lk rg] w (FewE w n L X words lk rg) := by
  have h4 := chk_len hR
  have HCHK : Hid (∀ W, Below w.heap.size w W → Calls Tryz.prog 11 #[prgV ca n cc wa words.length wc lk rg] W fun e w' => e = .returned (ints3 0 0 0) ∧ Below W.heap.size W w') := fun W hb => check_any ca n cc wa words.length wc lk rg A L C X 0 0 0 hR W (hp.below hb)
  have HLET : Hid (∀ W, Below w.heap.size w W → Calls Tryz.prog 12 #[prgV ca n cc wa words.length wc lk rg] W fun e w' => ∃ a c, e = .returned (.slice a (plA L X n).length c) ∧ Hid (PlIn w' a (plA L X n) ∧ (plA L X n).length ≤ c ∧ Below W.heap.size W w')) := fun W hb => (letting_any W ca n cc wa words.length wc lk rg A L C X (hp.below hb) hc.n4 hc.L4).mono fun e w' ⟨v, h1, h2, h3⟩ => by
    obtain ⟨a, c, rfl⟩ := h2.form
    refine ⟨a, c, h1, h2.pl, ?_, h3⟩
    rcases h2.2 with ⟨e0, e1⟩ | ⟨g, cap, cur, e0, _, _, h5, _⟩
    · omega
    · simp only [Value.slice.injEq] at e0
      rw [e0.2.2]; exact h5
  have HSC : Hid (∀ W, Below w.heap.size w W → Calls Tryz.prog 13 #[prgV ca n cc wa words.length wc lk rg] W fun e w' => ∃ a l c es, e = .returned (.tuple #[.slice a l c, ints3 0 0 0]) ∧ Hid (SpcX W L X 0 (beginX n words lk rg) false a l es w')) := fun W hb => (sc_yes W ca n cc wa wc lk rg words A L C X hR (hp.below hb) hc hn0 (hw.below hb) hnil hfit hwf (htab.up hb)).mono fun e w' h => by
    obtain ⟨full, z, a, l, c, es, h1, h2⟩ := h.x
    cases full with
    | true => exact absurd h2.out.1.1 (ht _)
    | false =>
      have hz : z = 0 := h2.out.2
      subst hz
      exact ⟨a, l, c, es, h1, h2.out.1⟩
  have HWT : Hid (∀ V S sa sc', Below w.heap.size w V → PlIn V sa S → S.length ≤ 6 → Calls Tryz.prog 15 #[prgV ca n cc wa words.length wc lk rg, .slice sa S.length sc'] V fun e w' => ∃ (full : Bool) (z : Int) (a : Option Addr) (l c : Nat) (es : List En), e = .returned (.tuple #[.slice a l c, ints3 z 0 0]) ∧ Hid (SpcX V (lenR (bSet X S) L) (numR (bSet X S) L) 1 (beginX n words lk rg) full a l es w' ∧ z = if full then 10 else 0)) := fun V S sa sc' hb hS hl => (waitW_any V ca n cc wa wc lk rg words A L C X sa sc' S (hp.below hb) hc h4 hn0 (hw.below hb) hnil hfit hwf (htab.up hb) hS (by omega)).mono fun e w' h => h.x
  obtain ⟨wl, hwl⟩ : ∃ k, words.length = k := ⟨_, rfl⟩
  obtain ⟨pl, hpl⟩ : ∃ k, (plA L X n).length = k := ⟨_, rfl⟩
  have HPL : Hid ((plA L X n).length = pl) := hpl
  have HB0 := Hid.out (p := Hid _) (fwB_start w ca n cc wa wl wc lk rg)
  rw [hwl] at HCHK HLET HSC HWT ⊢
  rw [hpl] at HLET h6
  have h6' : ¬ ((pl : Int) > 6) := by omega
  clear hp hc hR hwl hpl ht hn0 hw hnil hfit hwf htab h4
  have c0 := HB0.out.cells
  obtain ⟨⟨p0, p1, p2, p3⟩, _⟩ := c0
  refine (callsIn_wide (n := 0)).1 ?_
  refine callsIn_of_wp_marks Tryz.func5 rfl trivial ?_ rfl
  simp only [Tryz.ntmps5, List.size_toArray, List.length_cons, List.length_nil, Nat.reduceAdd, Nat.reduceSub, Array.replicate_succ, Array.replicate_zero, List.push_toArray, List.append_toArray, List.nil_append, List.cons_append]
  gi_wp2
  refine ⟨trivial, rfl, (callsIn_wide.2 (HCHK.out _ HB0.out.low)).mono ?_⟩
  rintro e w1 ⟨rfl, hb1⟩
  have HB1 : Hid (FwB w w1 ca n cc wa wl wc lk rg) := HB0.out.below hb1
  have hup := fun o => (HB1.out.below ((Below.refl _ _).alloc (Nat.le_refl _) o)).cells
  have p0 := fun o => (hup o).1.1
  have p1 := fun o => (hup o).1.2.1
  have p2 := fun o => (hup o).1.2.2.1
  have p3 := fun o => (hup o).1.2.2.2
  clear hb1 hup HCHK HB0
  gi_wp2
  refine ⟨trivial, rfl, (callsIn_wide.2 (HLET.out _ (HB1.out.below ((Below.refl _ _).alloc (Nat.le_refl _) _)).low)).mono ?_⟩
  rintro e w2 ⟨a2, c2, rfl, H2⟩
  have HB2 : Hid (FwB w w2 ca n cc wa wl wc lk rg) := (HB1.out.below ((Below.refl _ _).alloc (Nat.le_refl _) _)).below H2.out.2.2
  clear HLET HB1 p0 p1 p2 p3
  obtain ⟨⟨p0, p1, p2, p3⟩, _⟩ := HB2.out.cells
  gi_wp2
  refine ⟨trivial, rfl, (callsIn_wide.2 (HSC.out _ HB2.out.low)).mono ?_⟩
  rintro e w3 ⟨a3, l3, c3, es3, rfl, H3⟩
  have hb3 : Below w2.heap.size w2 w3 := H3.out.2.2.2.2.2.2
  clear HSC p0 p1 p2 p3
  gi_wp2
  refine ⟨trivial, rfl, (callsIn_wide.2 (sets_any _ a2 pl c2)).mono ?_⟩
  rintro e w4 ⟨rfl, rfl⟩
  gi_wp2
  obtain ⟨S0, hS0⟩ : ∃ V, ((w3.alloc (.cells #[.slice a3 l3 c3] 44)).alloc (.cells #[.int .i64 0, .int .i64 0, .int .i64 0] 29)).alloc (.cells #[.slice a2 pl c2] 26) = V := ⟨_, rfl⟩
  rw [hS0]
  have hsz : S0.heap.size = w3.heap.size + 1 + 1 + 1 := by rw [← hS0]; simp
  have hbS : Below w3.heap.size w3 S0 := by rw [← hS0]; exact (((Below.refl _ _).alloc (Nat.le_refl _) _).alloc (by simp) _).alloc (by simp; omega) _
  have hq0 : S0.heap[w3.heap.size]? = some (.cells #[.slice a3 l3 c3] 44) := by rw [← hS0]; exact box_later (box_later (heap_alloc_new _ _) _) _
  have hq2 : S0.heap[w3.heap.size + 1 + 1]? = some (.cells #[.slice a2 pl c2] 26) := by
    rw [← hS0]
    have := heap_alloc_new ((w3.alloc (.cells #[.slice a3 l3 c3] 44)).alloc (.cells #[.int .i64 0, .int .i64 0, .int .i64 0] 29)) (.cells #[.slice a2 pl c2] 26)
    simpa using this
  have HBS : Hid (FwB w S0 ca n cc wa wl wc lk rg) := (HB2.out.below hb3).below hbS
  have hpS : PlIn S0 a2 (plA L X n) := (H2.out.1.below hb3).below hbS
  have hlt2 : w.heap.size + 1 + 1 < S0.heap.size := box_lt HBS.out.hf
  have HX3 : Hid (∀ V, Below S0.heap.size S0 V → EIn V a3 es3 ∧ (∀ x, x ∈ es3 → EnOk V x)) := fun V hV => by
    have hbV := hbS.trans (hV.mono hbS.size)
    exact ⟨H3.out.2.2.1.below hbV, fun x hx => (H3.out.2.2.2.1 x hx).below hbV⟩
  have hseq := sets1_any S0 (w3.heap.size + 1 + 1) a2 c2 (plA L X n) (by rw [HPL.out]; exact box_cell hq2 rfl) hpS (by rw [HPL.out]; exact h6) (by rw [HPL.out]; exact H2.out.2.1)
  clear hS0
  refine range_sets (p := 34) (gf := 28) (lb := #[.pointer (some ⟨w3.heap.size + 1 + 1, 0, none⟩)]) rfl (enters_of Tryz.func28 (by kernel_rfl) rfl) (setsL (plA L X n)) hseq (FwI S0 n L X words lk rg (es3.map En.o)) (fun V => ∃ a c P z, FwF w V n L X words lk rg a c P z) (fun Ls V V' h hb => ⟨h.1.trans hb, h.2⟩) (fun V l o r ⟨a, c, P, z, h⟩ hl hr => ⟨a, c, P, z, h.put hr rfl (by omega)⟩) ⟨Below.refl _ _, fun S hS => ?_, fun _ _ h => h⟩ (fun lp S Tl sa sc V => ?_) (fun W hI hlt hD => ?_) (fun W hFi hlt hD => ?_)
  · have := (sets_sub _ _ _ S hS).length_le
    rw [HPL.out] at this
    omega
  · gi_wp2
    refine ⟨trivial, fun U hI hPl hfar hz => ?_⟩
    have HU : Hid (FwB w U ca n cc wa wl wc lk rg) := HBS.out.below hI.1
    have HI := Hid.out (p := Hid _) hI
    have HPS := Hid.out (p := Hid _) (And.intro hPl hfar)
    have hwt := HWT.out U S sa sc HU.out.low hPl (hI.2.1 S (by simp))
    have HLS : Hid (S.length ≤ 6) := hI.2.1 S (by simp)
    obtain ⟨sl, hsl⟩ : ∃ k, S.length = k := ⟨_, rfl⟩
    have HSL : Hid (S.length = sl) := hsl
    rw [hsl] at hwt
    rw [hsl]
    have HWU := Hid.out (p := Hid _) hwt
    obtain ⟨⟨p0, p1, p2, p3⟩, _⟩ := HU.out.cells
    clear hsl hwt hI hPl hfar HWT HB2 H2 hb3 hseq hpS hq2
    gi_wp2
    refine ⟨trivial, rfl, CallsIn.mono (show CallsIn (Fence.wide.inRound lp) 0 _ _ _ _ _ from callsIn_wide.2 HWU.out) ?_⟩
    rintro e u1 ⟨full, z, a4, l4, c4, es4, rfl, H4⟩
    have hb1 : Below U.heap.size U u1 := H4.out.1.2.2.2.2.2.2
    clear p0 p1 p2 p3 HWU
    have HO : Hid (∀ o, FwB w (u1.alloc o) ca n cc wa wl wc lk rg ∧ Below U.heap.size U (u1.alloc o) ∧ Below S0.heap.size S0 (u1.alloc o)) := fun o => by
      have hb2 : Below U.heap.size U (u1.alloc o) := hb1.alloc hb1.size o
      exact ⟨HU.out.below hb2, hb2, HI.out.1.trans (hb2.mono HI.out.1.size)⟩
    have hup := fun o => (HO.out o).1.cells
    have r0 := fun o => (hup o).2.1
    have f0 := fun o => (hup o).2.2.1.1
    have f1 := fun o => (hup o).2.2.1.2.1
    have f2 := fun o => (hup o).2.2.1.2.2
    have rf := fun o => (hup o).2.2.2.1
    have ff := fun o => (hup o).2.2.2.2
    have hq : ∀ o, (u1.alloc o).cell? ⟨w3.heap.size, 0, none⟩ = some (.slice a3 l3 c3) := fun o => by
      have e1 := ((HO.out o).2.2.block w3.heap.size (by omega)).trans hq0
      exact box_cell e1 rfl
    have hsU := HI.out.1.size
    have hsu := hb1.size
    have n1 : u1.heap.size ≠ w.heap.size + 1 := by omega
    have n2 : u1.heap.size ≠ w.heap.size + 1 + 1 := by omega
    have n3 : w.heap.size + 1 ≠ u1.heap.size := by omega
    have n4 : w.heap.size + 1 + 1 ≠ u1.heap.size := by omega
    cases full with
    | true =>
      obtain rfl : z = 10 := H4.out.2
      have HFQ : Hid (FewQ n L X words lk rg [] 10) := .inr ⟨by rw [HPL.out]; exact h6, .inr ⟨_, H3.out.1, HI.out.2.2 _ _ (.full H4.out.1.1)⟩⟩
      have HEND : Hid (∀ V (a' : Act), V = fwSet w (u1.alloc (.cells #[.int .i64 10, .int .i64 0, .int .i64 0] 29)) nilV 10 → sePost S0.heap.size (FwI S0 n L X words lk rg (es3.map En.o)) (fun V => ∃ a c P z, FwF w V n L X words lk rg a c P z) Tl U .ret a' V.drew) := fun V _ hV => by
        obtain ⟨g1, g2, g3, g4, g5⟩ := fw_set (HO.out (.cells #[.int .i64 10, .int .i64 0, .int .i64 0] 29)).1 nilV 10
        rw [← hV] at g1 g2 g3 g4 g5
        refine ⟨⟨?_, fun k hB hk => ?_⟩, none, 0, [], 10, g1, g2, HFQ.out, plIn_nil _ _, by simp, g4.drew, fun b o e => by cases e⟩
        · show _ ≤ V.heap.size
          rw [g5, World.size_alloc]
          omega
        · show V.heap[k]? = _
          rw [g3 k (by omega) (by omega), (HO.out _).2.1.block k hk]
      clear hup hq
      gi_wp2
      gi_region
      all_goals gi_wp2
      all_goals exact HEND.out _ _ rfl
    | false =>
      obtain rfl : z = 0 := H4.out.2
      have HAL : Hid (Calls Tryz.prog 16 #[.slice a3 l3 c3, .slice a4 l4 c4] (u1.alloc (.cells #[.int .i64 0, .int .i64 0, .int .i64 0] 29)) fun e w' => e = .returned (.bool (decide (es3.map En.o = es4.map En.o))) ∧ Below (u1.alloc (.cells #[.int .i64 0, .int .i64 0, .int .i64 0] 29)).heap.size (u1.alloc (.cells #[.int .i64 0, .int .i64 0, .int .i64 0] 29)) w') := by
        have x3 := HX3.out _ (HO.out (.cells #[.int .i64 0, .int .i64 0, .int .i64 0] 29)).2.2
        have x4 := H4.out.1
        have hbA : Below u1.heap.size u1 (u1.alloc (.cells #[.int .i64 0, .int .i64 0, .int .i64 0] 29)) := (Below.refl _ _).alloc (Nat.le_refl _) _
        have h := equal_any (u1.alloc (.cells #[.int .i64 0, .int .i64 0, .int .i64 0] 29)) a3 a4 es3 es4 c3 c4 x3.1 (x4.2.2.1.below hbA) x3.2 (fun x hx => (x4.2.2.2.1 x hx).below hbA) (by rw [H3.out.2.1]; exact H3.out.2.2.2.2.1) (by rw [x4.2.1]; exact x4.2.2.2.2.1)
        rw [H3.out.2.1, x4.2.1] at h
        exact alike_any _ a3 a4 l3 l4 c3 c4 _ h
      obtain ⟨r, hr⟩ : ∃ r, decide (es3.map En.o = es4.map En.o) = r := ⟨_, rfl⟩
      have HR : Hid (decide (es3.map En.o = es4.map En.o) = r) := hr
      rw [hr] at HAL
      clear hr hup r0 f0 f1 f2 rf ff
      gi_wp2
      refine ⟨trivial, rfl, CallsIn.mono (show CallsIn (Fence.wide.inRound lp) 0 _ _ _ _ _ from callsIn_wide.2 HAL.out) ?_⟩
      rintro e u2 ⟨rfl, hb2⟩
      have H2 : Hid (FwB w u2 ca n cc wa wl wc lk rg ∧ Below U.heap.size U u2 ∧ Below S0.heap.size S0 u2) := by
        obtain ⟨g1, g2, g3⟩ := HO.out (.cells #[.int .i64 0, .int .i64 0, .int .i64 0] 29)
        exact ⟨g1.below hb2, g2.trans (hb2.mono g2.size), g3.trans (hb2.mono g3.size)⟩
      clear hb2 hq HAL
      cases r with
      | true =>
        have hse := of_decide_eq_true HR.out
        have HFQ : Hid (FewQ n L X words lk rg S 0) := .inr ⟨by rw [HPL.out]; exact h6, .inr ⟨_, H3.out.1, HI.out.2.2 _ _ (.hit (by rw [hse]; exact H4.out.1.1))⟩⟩
        have HEND : Hid (∀ V (a' : Act), V = fwSet w u2 (.slice sa sl sc) 0 → sePost S0.heap.size (FwI S0 n L X words lk rg (es3.map En.o)) (fun V => ∃ a c P z, FwF w V n L X words lk rg a c P z) Tl U .ret a' V) := fun V _ hV => by
          obtain ⟨g1, g2, g3, g4, g5⟩ := fw_set H2.out.1 (.slice sa sl sc) 0
          rw [← hV] at g1 g2 g3 g4 g5
          rw [← HSL.out] at g1
          refine ⟨⟨by rw [g5]; exact H2.out.2.1.size, fun k hB hk => ?_⟩, sa, sc, S, 0, g1, g2, HFQ.out, fun k hk => ?_, HLS.out, g4, fun b o e h => by have := HPS.out.2 b o e h; omega⟩
          · rw [g3 k (by omega) (by omega), H2.out.2.1.block k hk]
          · obtain ⟨b, o, e, k1, k2⟩ := (HPS.out.1.below H2.out.2.1) k hk
            have hb := HPS.out.2 b o e (by omega)
            have hbk : V.heap[b]? = u2.heap[b]? := g3 b (by omega) (by omega)
            exact ⟨b, o, e, (World.cell?_of_block hbk).trans k1, (World.cell?_of_block hbk).trans k2⟩
        obtain ⟨_, r0, ⟨f0, f1, f2⟩, rf, ff⟩ := H2.out.1.cells
        clear hse
        gi_wp2
        all_goals exact HEND.out _ _ rfl
      | false =>
        have hse := of_decide_eq_false HR.out
        have HEND : Hid (∀ (a' : Act), sePost S0.heap.size (FwI S0 n L X words lk rg (es3.map En.o)) (fun V => ∃ a c P z, FwF w V n L X words lk rg a c P z) Tl U .normal a' u2) := fun _ => ⟨H2.out.2.1, H2.out.2.2, fun S' hS' => HI.out.2.1 S' (by simp [hS']), fun P z h => HI.out.2.2 P z (.next H4.out.1.1 (fun e => hse e.symm) h)⟩
        clear hse
        gi_wp2
        all_goals exact HEND.out _
  · have hB : FwB w W ca n cc wa wl wc lk rg := HBS.out.below hI.1
    have HFQ : Hid (FewQ n L X words lk rg [] 0) := .inr ⟨by rw [HPL.out]; exact h6, .inr ⟨_, H3.out.1, hI.2.2 _ _ .done⟩⟩
    have HS := Hid.out (p := Hid _) (fw_set hB nilV 0)
    obtain ⟨_, r0, ⟨f0, f1, f2⟩, rf, ff⟩ := hB.cells
    have HD : Hid ((fwSet w W nilV 0).heap[S0.heap.size]? = some (.deferred (some []))) := (HS.out.2.2.1 _ (by omega) (by omega)).trans hD
    clear hD hI hB hseq hpS hq2 hq0 HX3 HWT H2 HB2
    gi_wp2
    refine ⟨by simp, .inl ⟨_, _, rfl, run_takeDeferred HD.out, ?_⟩⟩
    have hFw : FwF w (fwSet w W nilV 0) n L X words lk rg none 0 [] 0 := ⟨HS.out.1, HS.out.2.1, HFQ.out, plIn_nil _ _, by simp, HS.out.2.2.2.1, fun b o e => by cases e⟩
    have hE := hFw.put (o := .deferred none) HD.out rfl hlt2
    obtain ⟨V, hV⟩ : ∃ V, (fwSet w W nilV 0).putObj S0.heap.size (.deferred none) = V := ⟨_, rfl⟩
    rw [hV] at hE
    show LeavesInM _ _ _ _ _ _ _ _ ((fwSet w W nilV 0).putObj S0.heap.size (.deferred none))
    rw [hV]
    have q0 := box_cell (i := 0) hE.hr rfl
    have q1 := box_cell (i := 0) hE.hf rfl
    have q2 := box_cell (i := 1) hE.hf rfl
    have q3 := box_cell (i := 2) hE.hf rfl
    refine ⟨.tuple #[nilV, ints3 0 0 0], ?_, none, 0, [], 0, rfl, hE.q, hE.pl, hE.len, hE.low, hE.far⟩
    simp [results, Tryz.f5, go_sem, q0, q1, q2, q3]
  · obtain ⟨a, c, P, z, hFw⟩ := hFi
    clear hseq hpS hq2 hq0 HX3 HWT H2 HB2
    gi_wp2
    refine ⟨by simp, .inl ⟨_, _, rfl, run_takeDeferred hD, ?_⟩⟩
    have hE := hFw.put (o := .deferred none) hD rfl hlt2
    obtain ⟨V, hV⟩ : ∃ V, W.putObj S0.heap.size (.deferred none) = V := ⟨_, rfl⟩
    rw [hV] at hE ⊢
    have q0 := box_cell (i := 0) hE.hr rfl
    have q1 := box_cell (i := 0) hE.hf rfl
    have q2 := box_cell (i := 1) hE.hf rfl
    have q3 := box_cell (i := 2) hE.hf rfl
    refine ⟨.tuple #[.slice a P.length c, ints3 z 0 0], ?_, a, c, P, z, rfl, hE.q, hE.pl, hE.len, hE.low, hE.far⟩
    simp [results, Tryz.f5, go_sem, q0, q1, q2, q3]
/-- Fewest of a program that passed Check. -/
theorem few_yes (w : World) (ca : Option Addr) (n cc : Nat) (wa : Option Addr) (wc lk rg : Nat) (words : List Int) (A : Nat → Option Addr) (L C : Nat → Nat) (X : Nat → Nat → Nat → Int) (hR : chk n L X words.length lk rg = (0, 0, 0)) (hp : PIn w ca n A L C X) (hc : COk n L X words.length lk rg) (hn0 : 0 < n) (hw : SIs w wa words) (hnil : wa = none → words = [] ∧ wc = 0) (hfit : ∀ t i, t < n → i < L t → I64n (X t i 2)) (hwf : ∀ x, x ∈ words → I64n x) (htab : TabB w.heap.size w) :
    Calls Tryz.prog 5 #[prgV ca n cc wa words.length wc lk rg] w (FewE w n L X words lk rg) := by
  by_cases h6 : (plA L X n).length ≤ 6
  · by_cases ht : ∃ l0, Told (nxX L X 0) (outsX L X 0) (beginX n words lk rg) 4000 true l0
    · obtain ⟨l0, ht⟩ := ht
      exact few_full w ca n cc wa wc lk rg words A L C X hR hp hc hn0 hw hnil hfit hwf htab h6 l0 ht
    · exact few_main w ca n cc wa wc lk rg words A L C X hR hp hc hn0 hw hnil hfit hwf htab h6 (fun l0 h => ht ⟨l0, h⟩)
  · exact few_many w ca n cc wa wc lk rg words A L C X hR hp hc (by omega)
set_option maxRecDepth 100000 in
set_option maxHeartbeats 1600000 in
/-- Fewest of a program that Check does not let pass. -/
theorem few_no (w : World) (ca : Option Addr) (n cc : Nat) (wa : Option Addr) (m wc : Nat) (lk rg : Int) (A : Nat → Option Addr) (L C : Nat → Nat) (X : Nat → Nat → Nat → Int) (x y z : Int) (hR : chk n L X m lk rg = (x, y, z)) (hx : x ≠ 0) (hp : PIn w ca n A L C X) :
    Calls Tryz.prog 5 #[prgV ca n cc wa m wc lk rg] w fun e w' => e = .returned (.tuple #[nilV, ints3 x y z]) ∧ Below w.heap.size w w' := by
  have HCHK : Hid (∀ W, Below w.heap.size w W → Calls Tryz.prog 11 #[prgV ca n cc wa m wc lk rg] W fun e w' => e = .returned (ints3 x y z) ∧ Below W.heap.size W w') := fun W hb => check_any ca n cc wa m wc lk rg A L C X x y z hR W (hp.below hb)
  have hx' : (x != 0) = true := by simpa using hx
  have HB0 := Hid.out (p := Hid _) (fwB_start w ca n cc wa m wc lk rg)
  have c0 := HB0.out.cells
  obtain ⟨⟨p0, p1, p2, p3⟩, _⟩ := c0
  clear hp hR
  go_enter Tryz.func5, Tryz.ntmps5
  go_wp2_with fail
  refine Calls.mono (HCHK.out _ HB0.out.low) ?_
  rintro e w1 ⟨rfl, hb1⟩
  have HB1 : Hid (∀ o, FwB w (w1.alloc o) ca n cc wa m wc lk rg) := fun o => (HB0.out.below hb1).below ((Below.refl _ _).alloc (Nat.le_refl _) o)
  have hup := fun o => (HB1.out o).cells
  have r0 := fun o => (hup o).2.1
  have f0 := fun o => (hup o).2.2.1.1
  have f1 := fun o => (hup o).2.2.1.2.1
  have f2 := fun o => (hup o).2.2.1.2.2
  have rf := fun o => (hup o).2.2.2.1
  have ff := fun o => (hup o).2.2.2.2
  have hsz : w.heap.size + 1 + 1 < w1.heap.size := Nat.lt_of_lt_of_le (box_lt HB0.out.hf) hb1.size
  have n1 : w1.heap.size ≠ w.heap.size + 1 := by omega
  have n2 : w1.heap.size ≠ w.heap.size + 1 + 1 := by omega
  have n3 : w.heap.size + 1 ≠ w1.heap.size := by omega
  have n4 : w.heap.size + 1 + 1 ≠ w1.heap.size := by omega
  have HBB := Hid.out (p := Hid _) (HB1.out (.cells #[.int .i64 x, .int .i64 y, .int .i64 z] 29)).low
  clear hb1 hup HCHK HB0 p0 p1 p2 p3
  go_wp2_with fail
  go_region
  all_goals go_wp2
  all_goals refine bodyPost_ret (v := .tuple #[nilV, ints3 x y z]) (by simp [results, Tryz.results5, go_sem, cell_set, r0, f0, f1, f2]) rfl ⟨rfl, ?_⟩
  all_goals exact (((HBB.out.drew.setCell (by show w.heap.size ≤ w.heap.size + 1; omega) _).setCell (by show w.heap.size ≤ w.heap.size + 1 + 1; omega) _).setCell (by show w.heap.size ≤ w.heap.size + 1 + 1; omega) _).setCell (by show w.heap.size ≤ w.heap.size + 1 + 1; omega) _

end Go.Proofs.YtelckcpjmekgcadGreatDoor
