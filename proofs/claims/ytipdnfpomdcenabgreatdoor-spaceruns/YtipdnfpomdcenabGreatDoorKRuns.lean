/-
  The law of scripts and outcomes: what the statement asks, given what SC, TSO and Run tell.
-/
import Derived.Test.YtipdnfpomdcenabGreatDoorPTRunS
import Derived.Test.YtipdnfpomdcenabGreatDoorOcSame
import Derived.Deep.RegionHeld3
namespace Go.Proofs.YtipdnfpomdcenabGreatDoor
open Go.RowKit Go.Sort Go.Shelf

/-- A list of outcomes that the program made, above B. -/
def Oz (w : World) (B : Nat) (a : Option Addr) (len cap : Nat) (l : List Oc) : Prop := ∃ es : List En, es.map En.o = l ∧ IsO w B a len cap es ∧ (∀ x, x ∈ es → EnJ w B x) ∧ len ≤ 100000
theorem Oz.keep {w w1 : World} {B len cap : Nat} {a : Option Addr} {l : List Oc} (h : Oz w B a len cap l) (hk : ∀ g, B ≤ g → g < w.heap.size → w1.heap[g]? = w.heap[g]?) : Oz w1 B a len cap l := by
  obtain ⟨es, h1, h2, h3, h4⟩ := h
  refine ⟨es, h1, ⟨h2.is, fam_keeps h2.own (fun g hg => hk g (h2.own.lt g hg).1 (h2.own.lt g hg).2)⟩, fun x hx => ?_, h4⟩
  have := h3 x hx
  exact ⟨fam_keeps this.ws (fun g hg => hk g (this.ws.lt g hg).1 (this.ws.lt g hg).2), fam_keeps this.pr (fun g hg => hk g (this.pr.lt g hg).1 (this.pr.lt g hg).2), this.wl, this.pl⟩
theorem Oz.below {w w1 : World} {B len cap : Nat} {a : Option Addr} {l : List Oc} (h : Oz w B a len cap l) (hb : Below w.heap.size w w1) : Oz w1 B a len cap l := h.keep fun g _ h2 => hb.block g h2
theorem Oz.in {w : World} {B len cap : Nat} {a : Option Addr} {l : List Oc} (h : Oz w B a len cap l) : OsIn w a l ∧ OBd l ∧ l.length = len := by
  obtain ⟨es, rfl, h2, h3, h4⟩ := h
  exact ⟨ens_osin h2.ein (fun x hx => (h3 x hx).ok), ens_obd (by rw [h2.is]; exact h4) (fun x hx => (h3 x hx).ok), by rw [List.length_map]; exact h2.is⟩
theorem OutQ.oz {W w' : World} {L : Nat → Nat} {X : Nat → Nat → Nat → Int} {mode : Int} {s0 : Sx} {e : Ending} (h : OutQ W L X mode s0 e w') : ∃ (full : Bool) (a : Option Addr) (len cap : Nat) (l : List Oc), e = .returned (.tuple #[.slice a len cap, ints3 (if full then 10 else 0) 0 0]) ∧ Told (nxX L X mode) (outsX L X mode) s0 4000 full l ∧ Oz w' W.heap.size a len cap l ∧ Below W.heap.size W w' := by
  obtain ⟨full, a, len, cap, es, h1, h2, h3, h4, _, h6, h7⟩ := h
  exact ⟨full, a, len, cap, _, h1, h2, ⟨es, rfl, h3, h4, h6⟩, h7⟩
abbrev set3 (w : World) (g : Nat) (x y z : Value) : World := ((w.setCell ⟨g, 0, none⟩ x).setCell ⟨g, 1, none⟩ y).setCell ⟨g, 2, none⟩ z
theorem set3_is {w : World} {g : Nat} {a b c : Value} {t : TypeId} (h : w.heap[g]? = some (.cells #[a, b, c] t)) (x y z : Value) : (set3 w g x y z).heap[g]? = some (.cells #[x, y, z] t) ∧ (∀ k, k ≠ g → (set3 w g x y z).heap[k]? = w.heap[k]?) ∧ (set3 w g x y z).heap.size = w.heap.size :=
  ⟨heap_set_same (heap_set_same (heap_set_same h)), fun k hk => by
    show (World.setCell _ _ _).heap[k]? = _
    rw [Below.heap_setCell _ _ _ _ hk, Below.heap_setCell _ _ _ _ hk, Below.heap_setCell _ _ _ _ hk], by simp [set3, World.setCell]⟩
theorem set3_below {B : Nat} {w0 w : World} (h : Below B w0 w) {g : Nat} (hg : B ≤ g) (x y z : Value) : Below B w0 (set3 w g x y z) := ((h.setCell hg _).setCell hg _).setCell hg _

/-- What a run tells, and that it is one of some outcomes. -/
def RunZ (W : World) (l : List Oc) (e : Ending) (w' : World) : Prop := ∃ (pa va : Option Addr) (pc vc : Nat) (st k : Int) (ws pr : List Int), e = .returned (.tuple #[.agg #[.slice pa pr.length pc, .int .i64 st, .slice va ws.length vc, .int .i64 k], ints3 0 0 0]) ∧ Hid (Below W.heap.size W w' ∧ LI w' pa pr ∧ LI w' va ws ∧ pr.length ≤ 100000 ∧ ws.length ≤ 100000 ∧ (st ≠ 3 → (⟨st, if st = 1 then [] else ws, pr⟩ : Oc) ∈ l))
/-- What SC or TSO tell. -/
def SpZ (W : World) (P : List Oc → Prop) (e : Ending) (w' : World) : Prop := ∃ (a : Option Addr) (ln cap : Nat) (x y z : Int) (l : List Oc), e = .returned (.tuple #[.slice a ln cap, ints3 x y z]) ∧ Hid (Below W.heap.size W w' ∧ (x = 0 → P l ∧ Oz w' W.heap.size a ln cap l))

set_option maxRecDepth 100000 in
set_option maxHeartbeats 25600000 in
theorem spaceRuns_core (w : World) (ca : Option Addr) (n cc : Nat) (wa : Option Addr) (m wc : Nat) (lk rg : Int) (A : Nat → Option Addr) (L C : Nat → Nat) (X : Nat → Nat → Nat → Int) (hm : m ≤ 9223372036854775807) (hp : PIn w ca n A L C X) (sa : Option Addr) (sl sc : Nat) (htab : TabB w.heap.size w) (P0 P1 : List Oc → Prop)
    (HSC : Hid (∀ W, Below w.heap.size w W → Calls Tryz.prog 8 #[prgV ca n cc wa m wc lk rg] W (SpZ W P0)))
    (HTS : Hid (∀ W, Below w.heap.size w W → Calls Tryz.prog 13 #[prgV ca n cc wa m wc lk rg] W (SpZ W P1)))
    (HR0 : Hid (∀ l, P0 l → ∀ W, Below w.heap.size w W → Calls Tryz.prog 17 #[prgV ca n cc wa m wc lk rg, .slice sa sl sc] W (RunZ W l)))
    (HR1 : Hid (∀ l, P1 l → ∀ W, Below w.heap.size w W → Calls Tryz.prog 20 #[prgV ca n cc wa m wc lk rg, .slice sa sl sc] W (RunZ W l)))
    (HSUB : Hid (∀ l0 l1, P0 l0 → P1 l1 → ∀ o, o ∈ l0 → o ∈ l1)) :
    Calls Tryz.prog 5 #[prgV ca n cc wa m wc lk rg, .slice sa sl sc] w fun e w' => e = .returned (.bool true) ∧ Below w.heap.size w w' := by
  have HV : Hid (∀ W, Below w.heap.size w W → Calls Tryz.prog 16 #[prgV ca n cc wa m wc lk rg] W fun e w' => ∃ b, e = .returned (.bool b) ∧ Below W.heap.size W w') := fun W hb => (kvast_any ca n cc wa m wc lk rg A L C X hm W (hp.below hb)).mono fun e w' ⟨⟨b, h1⟩, h2⟩ => ⟨b, h1, h2⟩
  obtain ⟨PB, hPB⟩ : ∃ o : Obj, o = .cells #[.slice ca n cc, .slice wa m wc, .int .i64 lk, .int .i64 rg] 25 := ⟨_, rfl⟩
  have hb0 : Below w.heap.size w (w.alloc PB) := (Below.refl _ _).alloc (Nat.le_refl _) _
  have hp0 : (w.alloc PB).heap[w.heap.size]? = some PB := heap_alloc_new _ _
  have hz0 : (w.alloc PB).heap.size = w.heap.size + 1 := by simp
  have HAT : Hid (∀ V : World, V.heap[w.heap.size]? = some PB → V.cell? ⟨w.heap.size, 0, none⟩ = some (.slice ca n cc) ∧ V.cell? ⟨w.heap.size, 1, none⟩ = some (.slice wa m wc) ∧ V.cell? ⟨w.heap.size, 2, none⟩ = some (.int .i64 lk) ∧ V.cell? ⟨w.heap.size, 3, none⟩ = some (.int .i64 rg)) := fun V e1 => by
    rw [hPB] at e1
    exact ⟨box_cell e1 rfl, box_cell e1 rfl, box_cell e1 rfl, box_cell e1 rfl⟩
  obtain ⟨W0, hW0⟩ : ∃ V, w.alloc PB = V := ⟨_, rfl⟩
  rw [hW0] at hb0 hp0 hz0
  have HW0 : Hid (w.alloc (.cells #[.slice ca n cc, .slice wa m wc, .int .i64 lk, .int .i64 rg] 25) = W0) := by rw [← hW0, hPB]; exact rfl
  have HTB : Hid (∀ V, Below w.heap.size w V → TabB V.heap.size V) := fun V hV => htab.up hV
  have HBF : Hid (∀ (V : World) (d : Nat), V.heap.size = d → Calls Tryz.prog 15 #[] V fun e w' => e = .returned (prgV (some ⟨d + 3, 0, none⟩) 2 2 (some ⟨d + 4, 0, none⟩) 2 2 0 2) ∧ IsBuf d V w') := fun V d hd => buffers_any V d hd
  have HB0 := Hid.out (p := Hid _) (And.intro hb0 (And.intro hp0 hz0))
  clear hp hm htab hPB hb0 hp0 hz0 hW0
  go_enter Tryz.func5, Tryz.ntmps5
  go_wp2_with fail
  rw [HW0.out]
  refine Calls.mono (HBF.out _ _ rfl) ?_
  rintro e w1 ⟨rfl, hbuf⟩
  have hw1 : Below w.heap.size w w1 := HB0.out.1.trans (hbuf.below.mono HB0.out.1.size)
  have HS1 := Hid.out (p := Hid _) (buf_sc _ _ _ _ hbuf (Below.refl _ _) (HTB.out _ hw1))
  have H1 := Hid.out (p := Hid _) (And.intro hbuf.below hw1)
  clear hbuf hw1
  go_wp2_with fail
  refine Calls.mono HS1.out ?_
  rintro e w2 ⟨a1, c1, rfl, hb2⟩
  have hB2 : Below W0.heap.size W0 w2 := H1.out.1.trans (hb2.mono H1.out.1.size)
  clear HS1 H1 hb2
  obtain ⟨V2, hV2⟩ : ∃ V, w2.alloc (.cells #[.int .i64 0, .int .i64 0, .int .i64 0] 30) = V := ⟨_, rfl⟩
  have hBV2 : Below W0.heap.size W0 V2 := by rw [← hV2]; exact hB2.alloc hB2.size _
  have hFV2 : V2.heap[w2.heap.size]? = some (.cells #[.int .i64 0, .int .i64 0, .int .i64 0] 30) := by rw [← hV2]; exact heap_alloc_new _ _
  have HV2 := Hid.out (p := Hid _) hV2
  have hlt2 : w.heap.size + 1 ≤ w2.heap.size := by have := hB2.size; rw [HB0.out.2.2] at this; exact this
  have H2 := Hid.out (p := Hid _) (And.intro hBV2 hFV2)
  clear hV2 hBV2 hFV2 hB2
  go_wp2_with fail
  rw [HV2.out]
  refine Calls.mono (HBF.out _ _ rfl) ?_
  rintro e w3 ⟨rfl, hbuf⟩
  have hB3 : Below W0.heap.size W0 w3 := H2.out.1.trans (hbuf.below.mono H2.out.1.size)
  have hF3 := (hbuf.below.block _ (box_lt H2.out.2)).trans H2.out.2
  have HS3 := Hid.out (p := Hid _) (buf_tso _ _ _ _ hbuf (Below.refl _ _) (HTB.out _ (HB0.out.1.trans (hB3.mono HB0.out.1.size))))
  have H3 := Hid.out (p := Hid _) (And.intro hB3 hF3)
  clear hbuf hB3 hF3 HV2 H2
  go_wp2_with fail
  refine Calls.mono HS3.out ?_
  rintro e w4 ⟨a2, c2, rfl, hb4⟩
  have hB4 : Below W0.heap.size W0 w4 := H3.out.1.trans (hb4.mono H3.out.1.size)
  have hF4 := (hb4.block _ (box_lt H3.out.2)).trans H3.out.2
  clear HS3 H3 hb4
  obtain ⟨V4, hV4⟩ : ∃ V, w4.alloc (.cells #[.int .i64 0, .int .i64 0, .int .i64 0] 30) = V := ⟨_, rfl⟩
  have hBV4 : Below W0.heap.size W0 V4 := by rw [← hV4]; exact hB4.alloc hB4.size _
  have hFV4 : V4.heap[w2.heap.size]? = some (.cells #[.int .i64 0, .int .i64 0, .int .i64 0] 30) := by rw [← hV4]; exact box_later hF4 _
  have hGV4 : V4.heap[w4.heap.size]? = some (.cells #[.int .i64 0, .int .i64 0, .int .i64 0] 30) := by rw [← hV4]; exact heap_alloc_new _ _
  have HV4 := Hid.out (p := Hid _) hV4
  have hlt4 : w2.heap.size < w4.heap.size := box_lt hF4
  have H4 := Hid.out (p := Hid _) (And.intro hBV4 (And.intro hFV4 hGV4))
  clear hV4 hBV4 hFV4 hGV4 hB4 hF4
  go_wp2_with fail
  rw [HV4.out]
  refine Calls.mono (HBF.out _ _ rfl) ?_
  rintro e w5 ⟨rfl, hbuf⟩
  have hB5 : Below W0.heap.size W0 w5 := H4.out.1.trans (hbuf.below.mono H4.out.1.size)
  have hF5 := (hbuf.below.block _ (box_lt H4.out.2.1)).trans H4.out.2.1
  have hG5 := (hbuf.below.block _ (box_lt H4.out.2.2)).trans H4.out.2.2
  have HS5 := Hid.out (p := Hid _) (buf_rob _ _ _ _ hbuf (Below.refl _ _) (HTB.out _ (HB0.out.1.trans (hB5.mono HB0.out.1.size))))
  have H5 := Hid.out (p := Hid _) (And.intro hB5 (And.intro hF5 hG5))
  clear hbuf hB5 hF5 hG5 HV4 H4 HBF HTB
  go_wp2_with fail
  refine Calls.mono HS5.out ?_
  rintro e w6 ⟨rfl, hb6⟩
  obtain ⟨V6, hV6⟩ : ∃ V, w6.alloc (.cells #[.int .i64 0, .int .i64 0, .int .i64 0] 30) = V := ⟨_, rfl⟩
  have hB6 : Below W0.heap.size W0 w6 := H5.out.1.trans (hb6.mono H5.out.1.size)
  have hF6 := (hb6.block _ (box_lt H5.out.2.1)).trans H5.out.2.1
  have hG6 := (hb6.block _ (box_lt H5.out.2.2)).trans H5.out.2.2
  have hBV6 : Below W0.heap.size W0 V6 := by rw [← hV6]; exact hB6.alloc hB6.size _
  have hFV6 : V6.heap[w2.heap.size]? = some (.cells #[.int .i64 0, .int .i64 0, .int .i64 0] 30) := by rw [← hV6]; exact box_later hF6 _
  have hGV6 : V6.heap[w4.heap.size]? = some (.cells #[.int .i64 0, .int .i64 0, .int .i64 0] 30) := by rw [← hV6]; exact box_later hG6 _
  have HV6 := Hid.out (p := Hid _) hV6
  have hPV6 := (hBV6.block _ (by rw [HB0.out.2.2]; omega)).trans HB0.out.2.1
  have hp6 := fun o => HAT.out _ (box_later ((hB6.block _ (by rw [HB0.out.2.2]; omega)).trans HB0.out.2.1) o)
  have p0 := fun o => (hp6 o).1
  have p1 := fun o => (hp6 o).2.1
  have p2 := fun o => (hp6 o).2.2.1
  have p3 := fun o => (hp6 o).2.2.2
  clear hp6
  have f0 : ∀ o, (w6.alloc o).cell? ⟨w2.heap.size, 0, none⟩ = some (.int .i64 0) := fun o => box_cell (box_later hF6 o) rfl
  have g0 : ∀ o, (w6.alloc o).cell? ⟨w4.heap.size, 0, none⟩ = some (.int .i64 0) := fun o => box_cell (box_later hG6 o) rfl
  have H6 := Hid.out (p := Hid _) (And.intro hBV6 (And.intro hFV6 hGV6))
  have HW6 : Hid (Below w.heap.size w V6) := HB0.out.1.trans (hBV6.mono HB0.out.1.size)
  clear hV6 hBV6 hFV6 hGV6 hB6 hF6 hG6 HS5 H5 hb6 hPV6
  go_wp2_with fail
  rw [HV6.out]
  refine Calls.mono (HV.out _ HW6.out) ?_
  rintro e w7 ⟨b, rfl, hb7⟩
  clear HV6 HV p0 p1 p2 p3 f0 g0
  have hB7 : Below W0.heap.size W0 w7 := H6.out.1.trans (hb7.mono H6.out.1.size)
  have hF7 := (hb7.block _ (box_lt H6.out.2.1)).trans H6.out.2.1
  have hG7 := (hb7.block _ (box_lt H6.out.2.2)).trans H6.out.2.2
  obtain ⟨p0, p1, p2, p3⟩ := HAT.out _ ((hB7.block _ (by rw [HB0.out.2.2]; omega)).trans HB0.out.2.1)
  have H7 := Hid.out (p := Hid _) (And.intro hB7 (And.intro hF7 hG7))
  have HW7 : Hid (Below w.heap.size w w7) := HB0.out.1.trans (hB7.mono HB0.out.1.size)
  clear H6 HW6 hb7 hB7 hF7 hG7
  cases b with
  | true =>
    go_wp2_with fail
    go_ret
    exact ⟨rfl, HW7.out⟩
  | false =>
    go_wp2_with fail
    refine Calls.mono (HSC.out _ HW7.out) ?_
    rintro e w8 ⟨b1, n1, d1, x1, y1, z1, l1, rfl, HS1⟩
    clear p0 p1 p2 p3
    have hF8 := (HS1.out.1.block _ (box_lt H7.out.2.1)).trans H7.out.2.1
    have hG8 := (HS1.out.1.block _ (box_lt H7.out.2.2)).trans H7.out.2.2
    have hB8 : Below W0.heap.size W0 w8 := H7.out.1.trans (HS1.out.1.mono H7.out.1.size)
    obtain ⟨i1, i2, i3⟩ := set3_is hF8 (.int .i64 x1) (.int .i64 y1) (.int .i64 z1)
    have i4 := set3_below hB8 (g := w2.heap.size) (by rw [HB0.out.2.2]; omega) (.int .i64 x1) (.int .i64 y1) (.int .i64 z1)
    have ff : ∀ i, w8.frozen? ⟨w2.heap.size, i, none⟩ = false := fun i => box_free hF8
    have k0 : w8.cell? ⟨w2.heap.size, 0, none⟩ = some (.int .i64 0) := box_cell hF8 rfl
    have k1 : w8.cell? ⟨w2.heap.size, 1, none⟩ = some (.int .i64 0) := box_cell hF8 rfl
    have k2 : w8.cell? ⟨w2.heap.size, 2, none⟩ = some (.int .i64 0) := box_cell hF8 rfl
    obtain ⟨V8, hV8⟩ : ∃ V, set3 w8 w2.heap.size (.int .i64 x1) (.int .i64 y1) (.int .i64 z1) = V := ⟨_, rfl⟩
    rw [hV8] at i1 i2 i3 i4
    obtain ⟨p0, p1, p2, p3⟩ := HAT.out _ ((hB8.block _ (by rw [HB0.out.2.2]; omega)).trans HB0.out.2.1)
    have ne1 : w.heap.size ≠ w2.heap.size := by omega
    have ne2 : w2.heap.size ≠ w.heap.size := by omega
    have hG9 := (i2 _ (Nat.ne_of_gt hlt4)).trans hG8
    have HV8 : Hid (((w8.setCell ⟨w2.heap.size, 0, none⟩ (.int .i64 x1)).setCell ⟨w2.heap.size, 1, none⟩ (.int .i64 y1)).setCell ⟨w2.heap.size, 2, none⟩ (.int .i64 z1) = V8) := hV8
    have hOz8 : x1 = 0 → P0 l1 ∧ Oz V8 w7.heap.size b1 n1 d1 l1 := fun e => ⟨(HS1.out.2 e).1, (HS1.out.2 e).2.keep fun g hg _ => i2 g (by have := box_lt H7.out.2.1; omega)⟩
    have H8 := Hid.out (p := Hid _) (And.intro i4 (And.intro i1 (And.intro hG9 hOz8)))
    have HW8 : Hid (Below w.heap.size w V8) := HB0.out.1.trans (i4.mono HB0.out.1.size)
    clear HS1 hF8 hG8 hB8 i1 i2 i3 i4 hG9 hV8 hOz8 HSC
    go_wp2_with fail
    rw [HV8.out]
    refine Calls.mono (HTS.out _ HW8.out) ?_
    rintro e w9 ⟨b2, n2, d2, x2, y2, z2, l2, rfl, HS2⟩
    clear p0 p1 p2 p3 k0 k1 k2 ff HV8
    have hF9 := (HS2.out.1.block _ (box_lt H8.out.2.1)).trans H8.out.2.1
    have hG9 := (HS2.out.1.block _ (box_lt H8.out.2.2.1)).trans H8.out.2.2.1
    have hB9 : Below W0.heap.size W0 w9 := H8.out.1.trans (HS2.out.1.mono H8.out.1.size)
    obtain ⟨i1, i2, i3⟩ := set3_is hG9 (.int .i64 x2) (.int .i64 y2) (.int .i64 z2)
    have i4 := set3_below hB9 (g := w4.heap.size) (by rw [HB0.out.2.2]; omega) (.int .i64 x2) (.int .i64 y2) (.int .i64 z2)
    have ff : ∀ i, w9.frozen? ⟨w4.heap.size, i, none⟩ = false := fun i => box_free hG9
    have k0 : w9.cell? ⟨w4.heap.size, 0, none⟩ = some (.int .i64 0) := box_cell hG9 rfl
    have k1 : w9.cell? ⟨w4.heap.size, 1, none⟩ = some (.int .i64 0) := box_cell hG9 rfl
    have k2 : w9.cell? ⟨w4.heap.size, 2, none⟩ = some (.int .i64 0) := box_cell hG9 rfl
    obtain ⟨V9, hV9⟩ : ∃ V, set3 w9 w4.heap.size (.int .i64 x2) (.int .i64 y2) (.int .i64 z2) = V := ⟨_, rfl⟩
    rw [hV9] at i1 i2 i3 i4
    obtain ⟨p0, p1, p2, p3⟩ := HAT.out _ ((hB9.block _ (by rw [HB0.out.2.2]; omega)).trans HB0.out.2.1)
    have q0 : w9.cell? ⟨w2.heap.size, 0, none⟩ = some (.int .i64 x1) := box_cell hF9 rfl
    have ne3 : w.heap.size ≠ w4.heap.size := by omega
    have ne4 : w4.heap.size ≠ w.heap.size := by omega
    have ne5 : w2.heap.size ≠ w4.heap.size := by omega
    have ne6 : w4.heap.size ≠ w2.heap.size := by omega
    have hF10 := (i2 _ ne5).trans hF9
    have HV9 : Hid (((w9.setCell ⟨w4.heap.size, 0, none⟩ (.int .i64 x2)).setCell ⟨w4.heap.size, 1, none⟩ (.int .i64 y2)).setCell ⟨w4.heap.size, 2, none⟩ (.int .i64 z2) = V9) := hV9
    have hOz1 : x1 = 0 → P0 l1 ∧ Oz V9 w7.heap.size b1 n1 d1 l1 := fun e => ⟨(H8.out.2.2.2 e).1, ((H8.out.2.2.2 e).2.below HS2.out.1).keep fun g hg _ => i2 g (by have := box_lt H7.out.2.2; omega)⟩
    have hOz2 : x2 = 0 → P1 l2 ∧ Oz V9 V8.heap.size b2 n2 d2 l2 := fun e => ⟨(HS2.out.2 e).1, (HS2.out.2 e).2.keep fun g hg _ => i2 g (by have := box_lt H8.out.2.2.1; omega)⟩
    have H9 := Hid.out (p := Hid _) (And.intro i4 (And.intro hF10 (And.intro i1 (And.intro hOz1 hOz2))))
    have HW9 : Hid (Below w.heap.size w V9) := HB0.out.1.trans (i4.mono HB0.out.1.size)
    clear HS2 hF9 hG9 hB9 i1 i2 i3 i4 hF10 hV9 hOz1 hOz2 HTS H8 HW8 H7 HW7
    by_cases hx1 : x1 = 0
    rotate_left
    · have hx1' : (x1 == 0) = false := by simpa using hx1
      have hx1n : (x1 != 0) = true := by simpa using hx1
      by_cases hx2 : x2 = 0
      rotate_left
      · have hx2' : (x2 == 0) = false := by simpa using hx2
        go_wp2_with fail
        rw [HV9.out]
        go_ret
        exact ⟨rfl, HW9.out⟩
      · subst hx2
        obtain ⟨hPA, hZA⟩ := H9.out.2.2.2.2 (by first | rfl | trivial)
        have HRN : Hid (Calls Tryz.prog 20 #[prgV ca n cc wa m wc lk rg, .slice sa sl sc] V9 (RunZ V9 l2)) := HR1.out _ hPA _ HW9.out
        have HZA : Hid (Oz V9 V8.heap.size b2 n2 d2 l2) := hZA
        clear hPA hZA
        go_wp2_with fail
        rw [HV9.out]
        refine Calls.mono HRN.out ?_
        rintro e AA ⟨paA, vaA, pcA, vcA, stA, kA, wsA, prA, rfl, HTA⟩
        have hbAA : Below W0.heap.size W0 AA := H9.out.1.trans (HTA.out.1.mono H9.out.1.size)
        have HEN : Hid (∀ W, Calls Tryz.prog 18 #[.agg #[.slice paA prA.length pcA, .int .i64 stA, .slice vaA wsA.length vcA, .int .i64 kA]] W fun e w' => ∃ (ua : Option Addr) (uc : Nat) (us : List Int), e = .returned (.agg #[.int .i64 stA, .slice ua us.length uc, .slice paA prA.length pcA]) ∧ Hid (Below W.heap.size W w' ∧ us = (if stA = 1 then [] else wsA) ∧ ∀ V, LI V vaA wsA → LI V ua us)) := fun W => endedO_any W _ _ _ _ _ _ _ _
        obtain ⟨nprA, hprA⟩ : ∃ k, prA.length = k := ⟨_, rfl⟩
        obtain ⟨nwsA, hwsA⟩ : ∃ k, wsA.length = k := ⟨_, rfl⟩
        rw [hprA, hwsA] at HEN
        rw [hprA, hwsA]
        obtain ⟨BA, hBA⟩ : ∃ V, (AA.alloc (.cells #[.slice paA nprA pcA, .int .i64 stA, .slice vaA nwsA vcA, .int .i64 kA] 46)).alloc (.cells #[.int .i64 0, .int .i64 0, .int .i64 0] 30) = V := ⟨_, rfl⟩
        have hbBA : Below AA.heap.size AA BA := by rw [← hBA]; exact ((Below.refl _ _).alloc (Nat.le_refl _) _).alloc (by simp) _
        have htA : BA.heap[AA.heap.size]? = some (.cells #[.slice paA nprA pcA, .int .i64 stA, .slice vaA nwsA vcA, .int .i64 kA] 46) := by rw [← hBA]; exact box_later (heap_alloc_new _ _) _
        have heA : BA.heap[AA.heap.size + 1]? = some (.cells #[.int .i64 0, .int .i64 0, .int .i64 0] 30) := by
          rw [← hBA]
          have := heap_alloc_new (AA.alloc (.cells #[.slice paA nprA pcA, .int .i64 stA, .slice vaA nwsA vcA, .int .i64 kA] 46)) (.cells #[.int .i64 0, .int .i64 0, .int .i64 0] 30)
          rwa [World.size_alloc] at this
        have HBA := Hid.out (p := Hid _) hBA
        have HLNA : Hid (prA.length = nprA ∧ wsA.length = nwsA) := ⟨hprA, hwsA⟩
        have HMA := Hid.out (p := Hid _) (And.intro hbAA (And.intro hbBA (And.intro htA heA)))
        clear hBA hbAA hbBA htA heA hprA hwsA HRN
        go_wp2_with fail
        rw [HBA.out]
        refine Calls.mono (HEN.out _) ?_
        rintro e CA ⟨uaA, ucA, usA, rfl, HUA⟩
        clear HEN HBA
        have hbACA : Below AA.heap.size AA CA := HMA.out.2.1.trans (HUA.out.1.mono HMA.out.2.1.size)
        obtain ⟨nusA, husA⟩ : ∃ k, usA.length = k := ⟨_, rfl⟩
        obtain ⟨DA, hDA⟩ : ∃ V, CA.alloc (.cells #[.int .i64 stA, .slice uaA nusA ucA, .slice paA nprA pcA] 50) = V := ⟨_, rfl⟩
        have hbDA : Below AA.heap.size AA DA := by rw [← hDA]; exact hbACA.alloc hbACA.size _
        have hbUDA : Below V9.heap.size V9 DA := HTA.out.1.trans (hbDA.mono HTA.out.1.size)
        have HFO : Hid (Calls Tryz.prog 19 #[.slice b2 n2 d2, .agg #[.int .i64 stA, .slice uaA nusA ucA, .slice paA nprA pcA]] DA fun e w' => ∃ r, e = .returned (.bool r) ∧ Hid (Below DA.heap.size DA w' ∧ (stA ≠ 3 → r = true))) := by
          obtain ⟨g1, g2, g3⟩ := Oz.in (Oz.below HZA.out hbUDA)
          have h := found_any _ l2 d2 ⟨stA, usA, prA⟩ uaA paA ucA pcA g2 ⟨by rw [HUA.out.2.1]; split; exact Nat.zero_le _; exact HTA.out.2.2.2.2.1, HTA.out.2.2.2.1⟩ DA g1 (HUA.out.2.2 _ (IIn.below HTA.out.2.2.1 hbDA)) (IIn.below HTA.out.2.1 hbDA)
          simp only [g3, husA, HLNA.out.1] at h
          exact Calls.mono h fun e w' ⟨h1, h2⟩ => ⟨_, h1, h2, fun hs => decide_eq_true (by rw [HUA.out.2.1]; exact HTA.out.2.2.2.2.2 hs)⟩
        have htA : DA.heap[AA.heap.size]? = some (.cells #[.slice paA nprA pcA, .int .i64 stA, .slice vaA nwsA vcA, .int .i64 kA] 46) := by rw [← hDA]; exact box_later ((HUA.out.1.block _ (box_lt HMA.out.2.2.1)).trans HMA.out.2.2.1) _
        have heA : DA.heap[AA.heap.size + 1]? = some (.cells #[.int .i64 0, .int .i64 0, .int .i64 0] 30) := by rw [← hDA]; exact box_later ((HUA.out.1.block _ (box_lt HMA.out.2.2.2)).trans HMA.out.2.2.2) _
        have HDA := Hid.out (p := Hid _) hDA
        have HNA := Hid.out (p := Hid _) (And.intro hbUDA (And.intro htA heA))
        rw [husA]
        clear hDA hbACA hbDA hbUDA htA heA husA
        go_wp2_with fail
        rw [HDA.out]
        refine Calls.mono HFO.out ?_
        rintro e EA ⟨rA, rfl, HRA⟩
        clear HFO HDA p0 p1 p2 p3
        have hbUEA : Below V9.heap.size V9 EA := HNA.out.1.trans (HRA.out.1.mono HNA.out.1.size)
        have t1 : EA.cell? ⟨AA.heap.size, 1, none⟩ = some (.int .i64 stA) := box_cell ((HRA.out.1.block _ (box_lt HNA.out.2.1)).trans HNA.out.2.1) rfl
        have e0 : EA.cell? ⟨AA.heap.size + 1, 0, none⟩ = some (.int .i64 0) := box_cell ((HRA.out.1.block _ (box_lt HNA.out.2.2)).trans HNA.out.2.2) rfl
        have hbEA : Below W0.heap.size W0 EA := H9.out.1.trans (hbUEA.mono H9.out.1.size)
        have HEA : Hid (Below W0.heap.size W0 EA ∧ EA.heap[w2.heap.size]? = some (.cells #[.int .i64 x1, .int .i64 y1, .int .i64 z1] 30) ∧ EA.heap[w4.heap.size]? = some (.cells #[.int .i64 0, .int .i64 y2, .int .i64 z2] 30) ∧ ((x1 : Int) = 0 → P0 l1 ∧ Oz EA w7.heap.size b1 n1 d1 l1) ∧ ((0 : Int) = 0 → P1 l2 ∧ Oz EA V8.heap.size b2 n2 d2 l2)) := ⟨hbEA, (hbUEA.block _ (box_lt H9.out.2.1)).trans H9.out.2.1, (hbUEA.block _ (box_lt H9.out.2.2.1)).trans H9.out.2.2.1, fun e => ⟨(H9.out.2.2.2.1 (by first | exact e | trivial)).1, Oz.below (H9.out.2.2.2.1 (by first | exact e | trivial)).2 hbUEA⟩, fun e => ⟨(H9.out.2.2.2.2 (by first | exact e | trivial)).1, Oz.below (H9.out.2.2.2.2 (by first | exact e | trivial)).2 hbUEA⟩⟩
        have HWEA : Hid (Below w.heap.size w EA) := HB0.out.1.trans (hbEA.mono HB0.out.1.size)
        have q0 : EA.cell? ⟨w2.heap.size, 0, none⟩ = some (.int .i64 x1) := box_cell HEA.out.2.1 rfl
        have q1 : EA.cell? ⟨w4.heap.size, 0, none⟩ = some (.int .i64 0) := box_cell HEA.out.2.2.1 rfl
        obtain ⟨p0, p1, p2, p3⟩ := HAT.out _ ((hbEA.block _ (by rw [HB0.out.2.2]; omega)).trans HB0.out.2.1)
        have hrA : stA ≠ 3 → rA = true := HRA.out.2
        clear hbUEA hbEA HNA HMA HUA HTA HRA HZA
        have hcA : (stA != 3) = false ∨ ((stA != 3) = true ∧ rA = true) := by
          cases h : (stA != 3) with
          | false => exact Or.inl rfl
          | true => exact Or.inr ⟨rfl, hrA (by simpa using h)⟩
        clear hrA
        rcases hcA with hsA | ⟨hsA, rfl⟩
        all_goals
          go_wp2
          go_ret
          exact ⟨rfl, HWEA.out⟩
    · subst hx1
      by_cases hx2 : x2 = 0
      rotate_left
      · have hx2' : (x2 == 0) = false := by simpa using hx2
        have hx2n : (x2 != 0) = true := by simpa using hx2
        obtain ⟨hPA, hZA⟩ := H9.out.2.2.2.1 (by first | rfl | trivial)
        have HRN : Hid (Calls Tryz.prog 17 #[prgV ca n cc wa m wc lk rg, .slice sa sl sc] V9 (RunZ V9 l1)) := HR0.out _ hPA _ HW9.out
        have HZA : Hid (Oz V9 w7.heap.size b1 n1 d1 l1) := hZA
        clear hPA hZA
        go_wp2_with fail
        rw [HV9.out]
        refine Calls.mono HRN.out ?_
        rintro e AA ⟨paA, vaA, pcA, vcA, stA, kA, wsA, prA, rfl, HTA⟩
        have hbAA : Below W0.heap.size W0 AA := H9.out.1.trans (HTA.out.1.mono H9.out.1.size)
        have HEN : Hid (∀ W, Calls Tryz.prog 18 #[.agg #[.slice paA prA.length pcA, .int .i64 stA, .slice vaA wsA.length vcA, .int .i64 kA]] W fun e w' => ∃ (ua : Option Addr) (uc : Nat) (us : List Int), e = .returned (.agg #[.int .i64 stA, .slice ua us.length uc, .slice paA prA.length pcA]) ∧ Hid (Below W.heap.size W w' ∧ us = (if stA = 1 then [] else wsA) ∧ ∀ V, LI V vaA wsA → LI V ua us)) := fun W => endedO_any W _ _ _ _ _ _ _ _
        obtain ⟨nprA, hprA⟩ : ∃ k, prA.length = k := ⟨_, rfl⟩
        obtain ⟨nwsA, hwsA⟩ : ∃ k, wsA.length = k := ⟨_, rfl⟩
        rw [hprA, hwsA] at HEN
        rw [hprA, hwsA]
        obtain ⟨BA, hBA⟩ : ∃ V, (AA.alloc (.cells #[.slice paA nprA pcA, .int .i64 stA, .slice vaA nwsA vcA, .int .i64 kA] 46)).alloc (.cells #[.int .i64 0, .int .i64 0, .int .i64 0] 30) = V := ⟨_, rfl⟩
        have hbBA : Below AA.heap.size AA BA := by rw [← hBA]; exact ((Below.refl _ _).alloc (Nat.le_refl _) _).alloc (by simp) _
        have htA : BA.heap[AA.heap.size]? = some (.cells #[.slice paA nprA pcA, .int .i64 stA, .slice vaA nwsA vcA, .int .i64 kA] 46) := by rw [← hBA]; exact box_later (heap_alloc_new _ _) _
        have heA : BA.heap[AA.heap.size + 1]? = some (.cells #[.int .i64 0, .int .i64 0, .int .i64 0] 30) := by
          rw [← hBA]
          have := heap_alloc_new (AA.alloc (.cells #[.slice paA nprA pcA, .int .i64 stA, .slice vaA nwsA vcA, .int .i64 kA] 46)) (.cells #[.int .i64 0, .int .i64 0, .int .i64 0] 30)
          rwa [World.size_alloc] at this
        have HBA := Hid.out (p := Hid _) hBA
        have HLNA : Hid (prA.length = nprA ∧ wsA.length = nwsA) := ⟨hprA, hwsA⟩
        have HMA := Hid.out (p := Hid _) (And.intro hbAA (And.intro hbBA (And.intro htA heA)))
        clear hBA hbAA hbBA htA heA hprA hwsA HRN
        go_wp2_with fail
        rw [HBA.out]
        refine Calls.mono (HEN.out _) ?_
        rintro e CA ⟨uaA, ucA, usA, rfl, HUA⟩
        clear HEN HBA
        have hbACA : Below AA.heap.size AA CA := HMA.out.2.1.trans (HUA.out.1.mono HMA.out.2.1.size)
        obtain ⟨nusA, husA⟩ : ∃ k, usA.length = k := ⟨_, rfl⟩
        obtain ⟨DA, hDA⟩ : ∃ V, CA.alloc (.cells #[.int .i64 stA, .slice uaA nusA ucA, .slice paA nprA pcA] 50) = V := ⟨_, rfl⟩
        have hbDA : Below AA.heap.size AA DA := by rw [← hDA]; exact hbACA.alloc hbACA.size _
        have hbUDA : Below V9.heap.size V9 DA := HTA.out.1.trans (hbDA.mono HTA.out.1.size)
        have HFO : Hid (Calls Tryz.prog 19 #[.slice b1 n1 d1, .agg #[.int .i64 stA, .slice uaA nusA ucA, .slice paA nprA pcA]] DA fun e w' => ∃ r, e = .returned (.bool r) ∧ Hid (Below DA.heap.size DA w' ∧ (stA ≠ 3 → r = true))) := by
          obtain ⟨g1, g2, g3⟩ := Oz.in (Oz.below HZA.out hbUDA)
          have h := found_any _ l1 d1 ⟨stA, usA, prA⟩ uaA paA ucA pcA g2 ⟨by rw [HUA.out.2.1]; split; exact Nat.zero_le _; exact HTA.out.2.2.2.2.1, HTA.out.2.2.2.1⟩ DA g1 (HUA.out.2.2 _ (IIn.below HTA.out.2.2.1 hbDA)) (IIn.below HTA.out.2.1 hbDA)
          simp only [g3, husA, HLNA.out.1] at h
          exact Calls.mono h fun e w' ⟨h1, h2⟩ => ⟨_, h1, h2, fun hs => decide_eq_true (by rw [HUA.out.2.1]; exact HTA.out.2.2.2.2.2 hs)⟩
        have htA : DA.heap[AA.heap.size]? = some (.cells #[.slice paA nprA pcA, .int .i64 stA, .slice vaA nwsA vcA, .int .i64 kA] 46) := by rw [← hDA]; exact box_later ((HUA.out.1.block _ (box_lt HMA.out.2.2.1)).trans HMA.out.2.2.1) _
        have heA : DA.heap[AA.heap.size + 1]? = some (.cells #[.int .i64 0, .int .i64 0, .int .i64 0] 30) := by rw [← hDA]; exact box_later ((HUA.out.1.block _ (box_lt HMA.out.2.2.2)).trans HMA.out.2.2.2) _
        have HDA := Hid.out (p := Hid _) hDA
        have HNA := Hid.out (p := Hid _) (And.intro hbUDA (And.intro htA heA))
        rw [husA]
        clear hDA hbACA hbDA hbUDA htA heA husA
        go_wp2_with fail
        rw [HDA.out]
        refine Calls.mono HFO.out ?_
        rintro e EA ⟨rA, rfl, HRA⟩
        clear HFO HDA p0 p1 p2 p3
        have hbUEA : Below V9.heap.size V9 EA := HNA.out.1.trans (HRA.out.1.mono HNA.out.1.size)
        have t1 : EA.cell? ⟨AA.heap.size, 1, none⟩ = some (.int .i64 stA) := box_cell ((HRA.out.1.block _ (box_lt HNA.out.2.1)).trans HNA.out.2.1) rfl
        have e0 : EA.cell? ⟨AA.heap.size + 1, 0, none⟩ = some (.int .i64 0) := box_cell ((HRA.out.1.block _ (box_lt HNA.out.2.2)).trans HNA.out.2.2) rfl
        have hbEA : Below W0.heap.size W0 EA := H9.out.1.trans (hbUEA.mono H9.out.1.size)
        have HEA : Hid (Below W0.heap.size W0 EA ∧ EA.heap[w2.heap.size]? = some (.cells #[.int .i64 0, .int .i64 y1, .int .i64 z1] 30) ∧ EA.heap[w4.heap.size]? = some (.cells #[.int .i64 x2, .int .i64 y2, .int .i64 z2] 30) ∧ ((0 : Int) = 0 → P0 l1 ∧ Oz EA w7.heap.size b1 n1 d1 l1) ∧ ((x2 : Int) = 0 → P1 l2 ∧ Oz EA V8.heap.size b2 n2 d2 l2)) := ⟨hbEA, (hbUEA.block _ (box_lt H9.out.2.1)).trans H9.out.2.1, (hbUEA.block _ (box_lt H9.out.2.2.1)).trans H9.out.2.2.1, fun e => ⟨(H9.out.2.2.2.1 (by first | exact e | trivial)).1, Oz.below (H9.out.2.2.2.1 (by first | exact e | trivial)).2 hbUEA⟩, fun e => ⟨(H9.out.2.2.2.2 (by first | exact e | trivial)).1, Oz.below (H9.out.2.2.2.2 (by first | exact e | trivial)).2 hbUEA⟩⟩
        have HWEA : Hid (Below w.heap.size w EA) := HB0.out.1.trans (hbEA.mono HB0.out.1.size)
        have q0 : EA.cell? ⟨w2.heap.size, 0, none⟩ = some (.int .i64 0) := box_cell HEA.out.2.1 rfl
        have q1 : EA.cell? ⟨w4.heap.size, 0, none⟩ = some (.int .i64 x2) := box_cell HEA.out.2.2.1 rfl
        obtain ⟨p0, p1, p2, p3⟩ := HAT.out _ ((hbEA.block _ (by rw [HB0.out.2.2]; omega)).trans HB0.out.2.1)
        have hrA : stA ≠ 3 → rA = true := HRA.out.2
        clear hbUEA hbEA HNA HMA HUA HTA HRA HZA
        have hcA : (stA != 3) = false ∨ ((stA != 3) = true ∧ rA = true) := by
          cases h : (stA != 3) with
          | false => exact Or.inl rfl
          | true => exact Or.inr ⟨rfl, hrA (by simpa using h)⟩
        clear hrA
        rcases hcA with hsA | ⟨hsA, rfl⟩
        all_goals
          go_wp2
          go_ret
          exact ⟨rfl, HWEA.out⟩
      · subst hx2
        obtain ⟨hPA, hZA⟩ := H9.out.2.2.2.1 (by first | rfl | trivial)
        have HRN : Hid (Calls Tryz.prog 17 #[prgV ca n cc wa m wc lk rg, .slice sa sl sc] V9 (RunZ V9 l1)) := HR0.out _ hPA _ HW9.out
        have HZA : Hid (Oz V9 w7.heap.size b1 n1 d1 l1) := hZA
        clear hPA hZA
        go_wp2_with fail
        rw [HV9.out]
        refine Calls.mono HRN.out ?_
        rintro e AA ⟨paA, vaA, pcA, vcA, stA, kA, wsA, prA, rfl, HTA⟩
        have hbAA : Below W0.heap.size W0 AA := H9.out.1.trans (HTA.out.1.mono H9.out.1.size)
        have HEN : Hid (∀ W, Calls Tryz.prog 18 #[.agg #[.slice paA prA.length pcA, .int .i64 stA, .slice vaA wsA.length vcA, .int .i64 kA]] W fun e w' => ∃ (ua : Option Addr) (uc : Nat) (us : List Int), e = .returned (.agg #[.int .i64 stA, .slice ua us.length uc, .slice paA prA.length pcA]) ∧ Hid (Below W.heap.size W w' ∧ us = (if stA = 1 then [] else wsA) ∧ ∀ V, LI V vaA wsA → LI V ua us)) := fun W => endedO_any W _ _ _ _ _ _ _ _
        obtain ⟨nprA, hprA⟩ : ∃ k, prA.length = k := ⟨_, rfl⟩
        obtain ⟨nwsA, hwsA⟩ : ∃ k, wsA.length = k := ⟨_, rfl⟩
        rw [hprA, hwsA] at HEN
        rw [hprA, hwsA]
        obtain ⟨BA, hBA⟩ : ∃ V, (AA.alloc (.cells #[.slice paA nprA pcA, .int .i64 stA, .slice vaA nwsA vcA, .int .i64 kA] 46)).alloc (.cells #[.int .i64 0, .int .i64 0, .int .i64 0] 30) = V := ⟨_, rfl⟩
        have hbBA : Below AA.heap.size AA BA := by rw [← hBA]; exact ((Below.refl _ _).alloc (Nat.le_refl _) _).alloc (by simp) _
        have htA : BA.heap[AA.heap.size]? = some (.cells #[.slice paA nprA pcA, .int .i64 stA, .slice vaA nwsA vcA, .int .i64 kA] 46) := by rw [← hBA]; exact box_later (heap_alloc_new _ _) _
        have heA : BA.heap[AA.heap.size + 1]? = some (.cells #[.int .i64 0, .int .i64 0, .int .i64 0] 30) := by
          rw [← hBA]
          have := heap_alloc_new (AA.alloc (.cells #[.slice paA nprA pcA, .int .i64 stA, .slice vaA nwsA vcA, .int .i64 kA] 46)) (.cells #[.int .i64 0, .int .i64 0, .int .i64 0] 30)
          rwa [World.size_alloc] at this
        have HBA := Hid.out (p := Hid _) hBA
        have HLNA : Hid (prA.length = nprA ∧ wsA.length = nwsA) := ⟨hprA, hwsA⟩
        have HMA := Hid.out (p := Hid _) (And.intro hbAA (And.intro hbBA (And.intro htA heA)))
        clear hBA hbAA hbBA htA heA hprA hwsA HRN
        go_wp2_with fail
        rw [HBA.out]
        refine Calls.mono (HEN.out _) ?_
        rintro e CA ⟨uaA, ucA, usA, rfl, HUA⟩
        clear HEN HBA
        have hbACA : Below AA.heap.size AA CA := HMA.out.2.1.trans (HUA.out.1.mono HMA.out.2.1.size)
        obtain ⟨nusA, husA⟩ : ∃ k, usA.length = k := ⟨_, rfl⟩
        obtain ⟨DA, hDA⟩ : ∃ V, CA.alloc (.cells #[.int .i64 stA, .slice uaA nusA ucA, .slice paA nprA pcA] 50) = V := ⟨_, rfl⟩
        have hbDA : Below AA.heap.size AA DA := by rw [← hDA]; exact hbACA.alloc hbACA.size _
        have hbUDA : Below V9.heap.size V9 DA := HTA.out.1.trans (hbDA.mono HTA.out.1.size)
        have HFO : Hid (Calls Tryz.prog 19 #[.slice b1 n1 d1, .agg #[.int .i64 stA, .slice uaA nusA ucA, .slice paA nprA pcA]] DA fun e w' => ∃ r, e = .returned (.bool r) ∧ Hid (Below DA.heap.size DA w' ∧ (stA ≠ 3 → r = true))) := by
          obtain ⟨g1, g2, g3⟩ := Oz.in (Oz.below HZA.out hbUDA)
          have h := found_any _ l1 d1 ⟨stA, usA, prA⟩ uaA paA ucA pcA g2 ⟨by rw [HUA.out.2.1]; split; exact Nat.zero_le _; exact HTA.out.2.2.2.2.1, HTA.out.2.2.2.1⟩ DA g1 (HUA.out.2.2 _ (IIn.below HTA.out.2.2.1 hbDA)) (IIn.below HTA.out.2.1 hbDA)
          simp only [g3, husA, HLNA.out.1] at h
          exact Calls.mono h fun e w' ⟨h1, h2⟩ => ⟨_, h1, h2, fun hs => decide_eq_true (by rw [HUA.out.2.1]; exact HTA.out.2.2.2.2.2 hs)⟩
        have htA : DA.heap[AA.heap.size]? = some (.cells #[.slice paA nprA pcA, .int .i64 stA, .slice vaA nwsA vcA, .int .i64 kA] 46) := by rw [← hDA]; exact box_later ((HUA.out.1.block _ (box_lt HMA.out.2.2.1)).trans HMA.out.2.2.1) _
        have heA : DA.heap[AA.heap.size + 1]? = some (.cells #[.int .i64 0, .int .i64 0, .int .i64 0] 30) := by rw [← hDA]; exact box_later ((HUA.out.1.block _ (box_lt HMA.out.2.2.2)).trans HMA.out.2.2.2) _
        have HDA := Hid.out (p := Hid _) hDA
        have HNA := Hid.out (p := Hid _) (And.intro hbUDA (And.intro htA heA))
        rw [husA]
        clear hDA hbACA hbDA hbUDA htA heA husA
        go_wp2_with fail
        rw [HDA.out]
        refine Calls.mono HFO.out ?_
        rintro e EA ⟨rA, rfl, HRA⟩
        clear HFO HDA p0 p1 p2 p3
        have hbUEA : Below V9.heap.size V9 EA := HNA.out.1.trans (HRA.out.1.mono HNA.out.1.size)
        have t1 : EA.cell? ⟨AA.heap.size, 1, none⟩ = some (.int .i64 stA) := box_cell ((HRA.out.1.block _ (box_lt HNA.out.2.1)).trans HNA.out.2.1) rfl
        have e0 : EA.cell? ⟨AA.heap.size + 1, 0, none⟩ = some (.int .i64 0) := box_cell ((HRA.out.1.block _ (box_lt HNA.out.2.2)).trans HNA.out.2.2) rfl
        have hbEA : Below W0.heap.size W0 EA := H9.out.1.trans (hbUEA.mono H9.out.1.size)
        have HEA : Hid (Below W0.heap.size W0 EA ∧ EA.heap[w2.heap.size]? = some (.cells #[.int .i64 0, .int .i64 y1, .int .i64 z1] 30) ∧ EA.heap[w4.heap.size]? = some (.cells #[.int .i64 0, .int .i64 y2, .int .i64 z2] 30) ∧ ((0 : Int) = 0 → P0 l1 ∧ Oz EA w7.heap.size b1 n1 d1 l1) ∧ ((0 : Int) = 0 → P1 l2 ∧ Oz EA V8.heap.size b2 n2 d2 l2)) := ⟨hbEA, (hbUEA.block _ (box_lt H9.out.2.1)).trans H9.out.2.1, (hbUEA.block _ (box_lt H9.out.2.2.1)).trans H9.out.2.2.1, fun e => ⟨(H9.out.2.2.2.1 (by first | exact e | trivial)).1, Oz.below (H9.out.2.2.2.1 (by first | exact e | trivial)).2 hbUEA⟩, fun e => ⟨(H9.out.2.2.2.2 (by first | exact e | trivial)).1, Oz.below (H9.out.2.2.2.2 (by first | exact e | trivial)).2 hbUEA⟩⟩
        have HWEA : Hid (Below w.heap.size w EA) := HB0.out.1.trans (hbEA.mono HB0.out.1.size)
        have q0 : EA.cell? ⟨w2.heap.size, 0, none⟩ = some (.int .i64 0) := box_cell HEA.out.2.1 rfl
        have q1 : EA.cell? ⟨w4.heap.size, 0, none⟩ = some (.int .i64 0) := box_cell HEA.out.2.2.1 rfl
        obtain ⟨p0, p1, p2, p3⟩ := HAT.out _ ((hbEA.block _ (by rw [HB0.out.2.2]; omega)).trans HB0.out.2.1)
        have hrA : stA ≠ 3 → rA = true := HRA.out.2
        clear hbUEA hbEA HNA HMA HUA HTA HRA HZA
        have hcA : (stA != 3) = false ∨ ((stA != 3) = true ∧ rA = true) := by
          cases h : (stA != 3) with
          | false => exact Or.inl rfl
          | true => exact Or.inr ⟨rfl, hrA (by simpa using h)⟩
        clear hrA
        rcases hcA with hsA | ⟨hsA, rfl⟩
        all_goals
          obtain ⟨hPB, hZB⟩ := HEA.out.2.2.2.2 (by first | rfl | trivial)
          have HRN : Hid (Calls Tryz.prog 20 #[prgV ca n cc wa m wc lk rg, .slice sa sl sc] EA (RunZ EA l2)) := HR1.out _ hPB _ HWEA.out
          have HZB : Hid (Oz EA V8.heap.size b2 n2 d2 l2) := hZB
          clear hPB hZB
          go_wp2_with fail
          refine Calls.mono HRN.out ?_
          rintro e AB ⟨paB, vaB, pcB, vcB, stB, kB, wsB, prB, rfl, HTB⟩
          have hbAB : Below W0.heap.size W0 AB := HEA.out.1.trans (HTB.out.1.mono HEA.out.1.size)
          have HEN : Hid (∀ W, Calls Tryz.prog 18 #[.agg #[.slice paB prB.length pcB, .int .i64 stB, .slice vaB wsB.length vcB, .int .i64 kB]] W fun e w' => ∃ (ua : Option Addr) (uc : Nat) (us : List Int), e = .returned (.agg #[.int .i64 stB, .slice ua us.length uc, .slice paB prB.length pcB]) ∧ Hid (Below W.heap.size W w' ∧ us = (if stB = 1 then [] else wsB) ∧ ∀ V, LI V vaB wsB → LI V ua us)) := fun W => endedO_any W _ _ _ _ _ _ _ _
          obtain ⟨nprB, hprB⟩ : ∃ k, prB.length = k := ⟨_, rfl⟩
          obtain ⟨nwsB, hwsB⟩ : ∃ k, wsB.length = k := ⟨_, rfl⟩
          rw [hprB, hwsB] at HEN
          rw [hprB, hwsB]
          obtain ⟨BB, hBB⟩ : ∃ V, (AB.alloc (.cells #[.slice paB nprB pcB, .int .i64 stB, .slice vaB nwsB vcB, .int .i64 kB] 46)).alloc (.cells #[.int .i64 0, .int .i64 0, .int .i64 0] 30) = V := ⟨_, rfl⟩
          have hbBB : Below AB.heap.size AB BB := by rw [← hBB]; exact ((Below.refl _ _).alloc (Nat.le_refl _) _).alloc (by simp) _
          have htB : BB.heap[AB.heap.size]? = some (.cells #[.slice paB nprB pcB, .int .i64 stB, .slice vaB nwsB vcB, .int .i64 kB] 46) := by rw [← hBB]; exact box_later (heap_alloc_new _ _) _
          have heB : BB.heap[AB.heap.size + 1]? = some (.cells #[.int .i64 0, .int .i64 0, .int .i64 0] 30) := by
            rw [← hBB]
            have := heap_alloc_new (AB.alloc (.cells #[.slice paB nprB pcB, .int .i64 stB, .slice vaB nwsB vcB, .int .i64 kB] 46)) (.cells #[.int .i64 0, .int .i64 0, .int .i64 0] 30)
            rwa [World.size_alloc] at this
          have HBB := Hid.out (p := Hid _) hBB
          have HLNB : Hid (prB.length = nprB ∧ wsB.length = nwsB) := ⟨hprB, hwsB⟩
          have HMB := Hid.out (p := Hid _) (And.intro hbAB (And.intro hbBB (And.intro htB heB)))
          clear hBB hbAB hbBB htB heB hprB hwsB HRN
          go_wp2_with fail
          rw [HBB.out]
          refine Calls.mono (HEN.out _) ?_
          rintro e CB ⟨uaB, ucB, usB, rfl, HUB⟩
          clear HEN HBB
          have hbACB : Below AB.heap.size AB CB := HMB.out.2.1.trans (HUB.out.1.mono HMB.out.2.1.size)
          obtain ⟨nusB, husB⟩ : ∃ k, usB.length = k := ⟨_, rfl⟩
          obtain ⟨DB, hDB⟩ : ∃ V, CB.alloc (.cells #[.int .i64 stB, .slice uaB nusB ucB, .slice paB nprB pcB] 50) = V := ⟨_, rfl⟩
          have hbDB : Below AB.heap.size AB DB := by rw [← hDB]; exact hbACB.alloc hbACB.size _
          have hbUDB : Below EA.heap.size EA DB := HTB.out.1.trans (hbDB.mono HTB.out.1.size)
          have HFO : Hid (Calls Tryz.prog 19 #[.slice b2 n2 d2, .agg #[.int .i64 stB, .slice uaB nusB ucB, .slice paB nprB pcB]] DB fun e w' => ∃ r, e = .returned (.bool r) ∧ Hid (Below DB.heap.size DB w' ∧ (stB ≠ 3 → r = true))) := by
            obtain ⟨g1, g2, g3⟩ := Oz.in (Oz.below HZB.out hbUDB)
            have h := found_any _ l2 d2 ⟨stB, usB, prB⟩ uaB paB ucB pcB g2 ⟨by rw [HUB.out.2.1]; split; exact Nat.zero_le _; exact HTB.out.2.2.2.2.1, HTB.out.2.2.2.1⟩ DB g1 (HUB.out.2.2 _ (IIn.below HTB.out.2.2.1 hbDB)) (IIn.below HTB.out.2.1 hbDB)
            simp only [g3, husB, HLNB.out.1] at h
            exact Calls.mono h fun e w' ⟨h1, h2⟩ => ⟨_, h1, h2, fun hs => decide_eq_true (by rw [HUB.out.2.1]; exact HTB.out.2.2.2.2.2 hs)⟩
          have htB : DB.heap[AB.heap.size]? = some (.cells #[.slice paB nprB pcB, .int .i64 stB, .slice vaB nwsB vcB, .int .i64 kB] 46) := by rw [← hDB]; exact box_later ((HUB.out.1.block _ (box_lt HMB.out.2.2.1)).trans HMB.out.2.2.1) _
          have heB : DB.heap[AB.heap.size + 1]? = some (.cells #[.int .i64 0, .int .i64 0, .int .i64 0] 30) := by rw [← hDB]; exact box_later ((HUB.out.1.block _ (box_lt HMB.out.2.2.2)).trans HMB.out.2.2.2) _
          have HDB := Hid.out (p := Hid _) hDB
          have HNB := Hid.out (p := Hid _) (And.intro hbUDB (And.intro htB heB))
          rw [husB]
          clear hDB hbACB hbDB hbUDB htB heB husB
          go_wp2_with fail
          rw [HDB.out]
          refine Calls.mono HFO.out ?_
          rintro e EB ⟨rB, rfl, HRB⟩
          clear HFO HDB t1 e0 q0 q1 p0 p1 p2 p3
          have hbUEB : Below EA.heap.size EA EB := HNB.out.1.trans (HRB.out.1.mono HNB.out.1.size)
          have t1 : EB.cell? ⟨AB.heap.size, 1, none⟩ = some (.int .i64 stB) := box_cell ((HRB.out.1.block _ (box_lt HNB.out.2.1)).trans HNB.out.2.1) rfl
          have e0 : EB.cell? ⟨AB.heap.size + 1, 0, none⟩ = some (.int .i64 0) := box_cell ((HRB.out.1.block _ (box_lt HNB.out.2.2)).trans HNB.out.2.2) rfl
          have hbEB : Below W0.heap.size W0 EB := HEA.out.1.trans (hbUEB.mono HEA.out.1.size)
          have HEB : Hid (Below W0.heap.size W0 EB ∧ EB.heap[w2.heap.size]? = some (.cells #[.int .i64 0, .int .i64 y1, .int .i64 z1] 30) ∧ EB.heap[w4.heap.size]? = some (.cells #[.int .i64 0, .int .i64 y2, .int .i64 z2] 30) ∧ ((0 : Int) = 0 → P0 l1 ∧ Oz EB w7.heap.size b1 n1 d1 l1) ∧ ((0 : Int) = 0 → P1 l2 ∧ Oz EB V8.heap.size b2 n2 d2 l2)) := ⟨hbEB, (hbUEB.block _ (box_lt HEA.out.2.1)).trans HEA.out.2.1, (hbUEB.block _ (box_lt HEA.out.2.2.1)).trans HEA.out.2.2.1, fun e => ⟨(HEA.out.2.2.2.1 (by first | exact e | trivial)).1, Oz.below (HEA.out.2.2.2.1 (by first | exact e | trivial)).2 hbUEB⟩, fun e => ⟨(HEA.out.2.2.2.2 (by first | exact e | trivial)).1, Oz.below (HEA.out.2.2.2.2 (by first | exact e | trivial)).2 hbUEB⟩⟩
          have HWEB : Hid (Below w.heap.size w EB) := HB0.out.1.trans (hbEB.mono HB0.out.1.size)
          have q0 : EB.cell? ⟨w2.heap.size, 0, none⟩ = some (.int .i64 0) := box_cell HEB.out.2.1 rfl
          have q1 : EB.cell? ⟨w4.heap.size, 0, none⟩ = some (.int .i64 0) := box_cell HEB.out.2.2.1 rfl
          obtain ⟨p0, p1, p2, p3⟩ := HAT.out _ ((hbEB.block _ (by rw [HB0.out.2.2]; omega)).trans HB0.out.2.1)
          have hrB : stB ≠ 3 → rB = true := HRB.out.2
          clear hbUEB hbEB HNB HMB HUB HTB HRB HZB
          have hcB : (stB != 3) = false ∨ ((stB != 3) = true ∧ rB = true) := by
            cases h : (stB != 3) with
            | false => exact Or.inl rfl
            | true => exact Or.inr ⟨rfl, hrB (by simpa using h)⟩
          clear hrB
          rcases hcB with hsB | ⟨hsB, rfl⟩
          all_goals
            obtain ⟨hPa, hZa⟩ := HEB.out.2.2.2.1 (by first | rfl | trivial)
            obtain ⟨hPb, hZb⟩ := HEB.out.2.2.2.2 (by first | rfl | trivial)
            have HLP : Hid (∀ W, Below EB.heap.size EB W → ∀ k, k < n1 → ∃ (b o : Nat) (us : Int) (ua qa : Option Addr) (ul uc ql qc : Nat), b1 = some ⟨b, o, none⟩ ∧ W.cell? ⟨b, o + k * 3, none⟩ = some (.int .i64 us) ∧ W.cell? ⟨b, o + k * 3 + 1, none⟩ = some (.slice ua ul uc) ∧ W.cell? ⟨b, o + k * 3 + 2, none⟩ = some (.slice qa ql qc) ∧ Hid (∀ V, Below W.heap.size W V → Calls Tryz.prog 19 #[.slice b2 n2 d2, .agg #[.int .i64 us, .slice ua ul uc, .slice qa ql qc]] V fun e w' => e = .returned (.bool true) ∧ Below W.heap.size W w')) := fun W hb k hk => by
              obtain ⟨g1, g2, g3⟩ := Oz.in (Oz.below hZa hb)
              obtain ⟨b, o, ua, uc, qa, qc, e1, e2, e3, e4, e5, e6⟩ := g1 k (by omega)
              refine ⟨b, o, _, ua, qa, _, uc, _, qc, e1, e2, e3, e4, fun V hV => ?_⟩
              obtain ⟨f1, f2, f3⟩ := Oz.in (Oz.below (Oz.below hZb hb) hV)
              have hmem : l1.getD k default ∈ l1 := by
                rw [List.getD_eq_getElem?_getD, List.getElem?_eq_getElem (by omega)]
                exact List.getElem_mem _
              have h := found_any b2 l2 d2 (l1.getD k default) ua qa uc qc f2 (g2.2 _ hmem) V f1 (IIn.below e5 hV) (IIn.below e6 hV)
              rw [f3, decide_eq_true (HSUB.out _ _ hPa hPb _ hmem)] at h
              exact Calls.mono h fun e w' ⟨h1, h2⟩ => ⟨h1, hV.trans (h2.mono hV.size)⟩
            have hn1 : n1 ≤ 100000 := by obtain ⟨es, _, _, _, h⟩ := hZa; exact h
            clear hPa hPb hZa hZb
            go_wp2_with fail
            go_loopw [19] (fun i wr => ∃ k : Nat, k ≤ n1 ∧ i = .int .i64 k ∧ Below EB.heap.size EB wr) (fun i _ => n1 - (intOf i).toNat)
            case atStart => exact ⟨0, Nat.zero_le _, rfl, Below.refl _ _⟩
            case round =>
              obtain ⟨k, hk, rfl, hbr⟩ := hrel
              by_cases hlk : k < n1
              · obtain ⟨b, o, us, ua, qa, ul, uc, ql, qc, rfl, c0, c1, c2, HF⟩ := HLP.out _ hbr k hlk
                go_wp2_with fail
                refine Calls.mono (HF.out _ (Below.refl _ _)) ?_
                rintro e w1' ⟨rfl, hb1⟩
                have hB1 : Below EB.heap.size EB w1' := hbr.trans (hb1.mono hbr.size)
                clear hb1 c0 c1 c2 HF
                go_wp2
                all_goals go_roundw
                case rel => exact ⟨k + 1, by omega, by go_num, hB1⟩
                case measure => simp [intOf]; omega
              · have hBw : Below w.heap.size w wr := HWEB.out.trans (hbr.mono HWEB.out.size)
                go_wp2
                go_ret
                exact ⟨rfl, hBw⟩

end Go.Proofs.YtipdnfpomdcenabGreatDoor
