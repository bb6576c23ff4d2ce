/-
  All outcomes of a program, by the program: Outcomes.
-/
import Derived.Test.YtgofbkgfonlceacGreatDoorOcComp2
import Derived.Test.YtgofbkgfonlceacGreatDoorPBegin
namespace Go.Proofs.YtgofbkgfonlceacGreatDoor
open Go.RowKit Go.Sort Go.Shelf

theorem MemQ.up {Q : Cd} {w0 w W : World} {mb : Nat} {v : Rp → Value} {words : List Int} {lk : Nat} (h : MemQ Q w0 w mb v words lk) (hb : Below w.heap.size w W) : MemQ Q w0 W mb v words lk :=
  ⟨fun r hr => fam_keeps (h.own r hr) (fun g hg => hb.block g (h.lt hg)), h.apart, h.st, h.thr, h.prints, h.regs, h.mem, h.box, h.below.trans (hb.mono h.below.size)⟩
/-- A kind of memory, with all that is known of it. -/
structure KindOk (K : Mk) (tf cf : Nat) : Prop where
  hM : MLaw K
  hT : MTell K tf
  hC : MClone K cf
  ty : ∀ r, ¬ wTy (pTy K r)
  oty : ∀ r, pTy K r ≠ 67 ∧ pTy K r ≠ 40
/-- What Outcomes tells. -/
def OutQ (w : World) (L : Nat → Nat) (X : Nat → Nat → Nat → Int) (mode : Int) (s0 : Sx) (e : Ending) (w' : World) : Prop :=
  ∃ (full : Bool) (a : Option Addr) (len cap : Nat) (es : List En), e = .returned (.tuple #[.slice a len cap, ints3 (if full then 10 else 0) 0 0]) ∧ Told (nxX L X mode) (outsX L X mode) s0 4000 full (es.map En.o) ∧ IsO w' w.heap.size a len cap es ∧ (∀ x, x ∈ es → EnJ w' w.heap.size x) ∧ (full = true → len = 0) ∧ len ≤ 100000 ∧ Below w.heap.size w w'
theorem Srt.box {B : Nat} {w w' : World} {a : Option Addr} {n c k : Nat} {es : List En} {cs : Array Value} {t : TypeId} (h : Srt B w w' a) (hi : IsO w B a n c es) (hk : w.heap[k]? = some (.cells cs t (0, 0))) (ht : 67 ≠ t) : w'.heap[k]? = some (.cells cs t (0, 0)) :=
  (h.kept k (box_lt hk) (fun p hp e => own_type hi.own hk ht (by rw [hp]; exact congrArg some e))).trans hk
/-- What is left when all was gone through. -/
theorem out_told {c : Wc} {lb : Nat} {W : World} {K Z F : List Sx} {os : List Nat} {es es' : List En} (h : WlI c (ObO c lb) W K Z [] F os) (hk : K.length ≤ 4000) (he : ∀ o, o ∈ es.map En.o ↔ outcX c.Q.L c.X c.mode Z F o) (hp : es'.Perm es) (hs : es'.Pairwise (fun x y => aheadO y.o x.o = false)) :
    Told (nxX c.Q.L c.X c.mode) (outsX c.Q.L c.X c.mode) c.s0 4000 false ((compE es' es'.length).map En.o) := by
  obtain ⟨h1, h2⟩ := compE_all hs
  refine h.df.told h1 (fun o => ?_) hk
  rw [h2 o, (hp.map En.o).mem_iff]
  exact he o

set_option maxRecDepth 100000 in
set_option maxHeartbeats 3200000 in
/-- Outcomes. -/
theorem outcomes_any (w0 w : World) (Q : Cd) (tf cf : Nat) (ca : Option Addr) (n cc : Nat) (wa : Option Addr) (wc lk rg mb : Nat) (v0 : Rp → Value) (words : List Int) (X : Nat → Nat → Nat → Int) (hK : KindOk Q.K tf cf) (hnt : Q.nt = n) (hn0 : 0 < n) (hc : COk n Q.L X words.length lk rg) (hfit : ∀ t i, t < n → i < Q.L t → I64n (X t i 2)) (hwf : ∀ x, x ∈ words → I64n x) (hp : PIn w ca n Q.A Q.L Q.C X) (htab : TabB w.heap.size w) (hmem : MemQ Q w0 w mb v0 words lk) :
    Calls Tryz.prog 63 #[prgV ca n cc wa words.length wc lk rg, .iface Q.K.tid (.pointer (some ⟨Q.top mb, 0, none⟩))] w (OutQ w Q.L X Q.K.mode (beginX n words lk rg)) := by
  obtain ⟨W0, hW0⟩ : ∃ V, V = (w.alloc (.cells #[.slice ca n cc, .slice wa words.length wc, .int .i64 (lk : Int), .int .i64 (rg : Int)] 25)).alloc (.cells #[.int .i64 0, .int .i64 0, .int .i64 0] 30) := ⟨_, rfl⟩
  have hz0 : W0.heap.size = w.heap.size + 1 + 1 := by rw [hW0]; simp
  have hb0 : Below w.heap.size w W0 := by rw [hW0]; exact ((Below.refl _ _).alloc (Nat.le_refl _) _).alloc (by simp) _
  obtain ⟨W1, hW1⟩ : ∃ V, V = W0.alloc (.cells #[nilV] 40) := ⟨_, rfl⟩
  have hb1 : Below W0.heap.size W0 W1 := by rw [hW1]; exact (Below.refl _ _).alloc (Nat.le_refl _) _
  have hl1 : W1.heap[W0.heap.size]? = some (.cells #[nilV] 40) := by rw [hW1]; exact heap_alloc_new _ _
  have hf0 : W0.heap[w.heap.size + 1]? = some (.cells #[.int .i64 0, .int .i64 0, .int .i64 0] 30) := by
    have := heap_alloc_new (w.alloc (.cells #[.slice ca n cc, .slice wa words.length wc, .int .i64 (lk : Int), .int .i64 (rg : Int)] 25)) (.cells #[.int .i64 0, .int .i64 0, .int .i64 0] 30)
    rw [World.size_alloc] at this
    rw [hW0]; exact this
  have HWALK : Hid (∀ w2 sb v, Below W1.heap.size W1 w2 → QSt w2 w0.heap.size Q sb mb v (beginX n words lk rg) → Calls Tryz.prog 20 #[.pointer (some ⟨sb, 0, none⟩), .func (.func 99) #[] #[.pointer (some ⟨W0.heap.size, 0, none⟩)], .func (.func 102) #[] #[.pointer (some ⟨W0.heap.size, 0, none⟩)]] w2 fun e W' => ∃ ok : Bool, e = .returned (.bool ok) ∧ ∃ a cp es, Hid (Below W0.heap.size W0 W' ∧ W'.heap[W0.heap.size]? = some (.cells #[.slice a es.length cp] 40) ∧ IsO W' W0.heap.size a es.length cp es ∧ (∀ x, x ∈ es → EnJ W' W0.heap.size x) ∧ es.length ≤ 90000 ∧
      (ok = false → Told (nxX Q.L X Q.K.mode) (outsX Q.L X Q.K.mode) (beginX n words lk rg) 4000 true []) ∧ (ok = true → ∀ es' : List En, es'.Perm es → es'.Pairwise (fun x y => aheadO y.o x.o = false) → Told (nxX Q.L X Q.K.mode) (outsX Q.L X Q.K.mode) (beginX n words lk rg) 4000 false ((compE es' es'.length).map En.o)))) := fun w2 sb v hb2 hq => by
    have hs2 : W1.heap.size ≤ w2.heap.size := hb2.size
    have hs1 : W1.heap.size = W0.heap.size + 1 := by rw [hW1]; simp
    have hbw : Below W0.heap.size W0 w2 := hb1.trans (hb2.mono hb1.size)
    obtain ⟨c, hcd⟩ : ∃ c : Wc, c = ⟨Q, ca, X, n, words.length, lk, rg, beginX n words lk rg, W0.heap.size, W0, tf, cf, w2.heap.size, w2.heap.size + 1, w2.heap.size + 1 + 1 + 1, w2.heap.size + 1 + 1⟩ := ⟨_, rfl⟩
    have hok : WcOk c := by
      rw [hcd]
      exact ⟨hK.hM, hK.hT, hK.hC, hK.ty, hnt, hn0, hc, hfit, hp.below hb0, fun V hV => htab V (hb0.trans (hV.mono hb0.size)), rfl, by show W0.heap.size ≤ w2.heap.size; omega, by show W0.heap.size ≤ w2.heap.size + 1; omega, by show W0.heap.size ≤ w2.heap.size + 1 + 1 + 1; omega, by show W0.heap.size ≤ w2.heap.size + 1 + 1; omega⟩
    have hO := obs_out c hok (by rw [hcd]; exact hK.oty) W0.heap.size
    have hs0 : StP c 0 c.s0 := by
      rw [hcd]
      exact ⟨begin_ok, rfl, LkI.begin, VOk.begin hwf, by simp [beginX]⟩
    have hob : ∀ V, Below w2.heap.size w2 V → w2.heap.size < V.heap.size → ObO c W0.heap.size V [] [] := fun V hbV hlt => by
      have hl : V.heap[W0.heap.size]? = some (.cells #[nilV] 40) := by
        rw [hbV.block _ (by omega), hb2.block _ (by omega)]; exact hl1
      refine ⟨[], ⟨⟨none, 0, hl, IsO.nil _ _, fun p hp => (by cases hp)⟩, fun e he => (by cases he), ?_, ?_, ?_⟩, fun o => ?_, Nat.le_refl _⟩
      · rw [hcd]; exact hlt
      · rw [hcd]; exact Nat.le_refl _
      · rw [hcd]; show W0.heap.size ≠ w2.heap.size; omega
      · constructor
        · intro h; cases h
        · rintro (⟨s, hs, _⟩ | ⟨s, hs, _⟩) <;> cases hs
    have hq' : QSt w2 0 (c.Q.at Q.bb) sb mb v c.s0 := by rw [hcd]; exact hq.zero
    have h := walk_any c hok (NO c.km) (ObO c W0.heap.size) _ _ _ _ hO w2 (by rw [hcd]) (by rw [hcd]) (by rw [hcd]) (by rw [hcd]) (by rw [hcd]; exact hbw) sb mb Q.bb v hq' hs0 hob
    refine Calls.mono h ?_
    rintro e W' ⟨K, Z, O, F, os, he, hwl, hO0⟩
    obtain ⟨es, h1, h2, h3⟩ := hwl.ob
    obtain ⟨a, cp, g1, g2, _⟩ := h1.box
    have hlen := hwl.df.len
    have hkl := hwl.kl
    have hfl := hwl.fl
    have hlow := hwl.wk.low
    have hJ := h1.ok
    rw [show c.B = W0.heap.size by rw [hcd]] at g2 hlow hJ
    rw [show c.w0 = W0 by rw [hcd]] at hlow
    refine ⟨decide (K.length ≤ 4000), he, a, cp, es, hlow, g1, g2, hJ, by omega, fun hf => ?_, fun ht es' hp' hs' => ?_⟩
    · have := hwl.df.full (mx := 4000) [] (by have := of_decide_eq_false hf; omega)
      rw [hcd] at this
      exact this
    · have hk := of_decide_eq_true ht
      rw [hO0 hk] at hwl
      have := out_told hwl hk h2 hp' hs'
      rw [hcd] at this
      exact this
  have HBEG : Hid (Calls Tryz.prog 21 #[prgV ca n cc wa words.length wc lk rg, .iface Q.K.tid (.pointer (some ⟨Q.top mb, 0, none⟩))] W1 fun e w' => ∃ sb v, e = .returned (.pointer (some ⟨sb, 0, none⟩)) ∧ QSt w' w0.heap.size Q sb mb v (beginX n words lk rg) ∧ Below W1.heap.size W1 w') := by
    have hbV : Below w.heap.size w W1 := hb0.trans (hb1.mono hb0.size)
    refine Calls.mono (pbegin_any w0 W1 ca n cc wa wc lk rg mb v0 words Q X (hmem.up hbV) (hp.below hbV) hc.n4 hc.rg0 hc.rg2) ?_
    rintro e w' ⟨sb, v, he, _, h1, h2⟩
    exact ⟨sb, v, he, h1, h2⟩
  -- the last steps
  have HSORT : Hid (∀ W' a cp es, Below W0.heap.size W0 W' → IsO W' W0.heap.size a es.length cp es → (∀ x, x ∈ es → EnJ W' W0.heap.size x) → es.length ≤ 90000 → Calls Tryz.prog 103 #[.slice a es.length cp, .func (.func 104) #[] #[]] W' fun e w' => e = .returned (.tuple #[]) ∧ ∃ es', Hid (es'.Perm es ∧ es'.Pairwise (fun x y => aheadO y.o x.o = false) ∧ IsO w' W0.heap.size a es.length cp es' ∧ (∀ e, e ∈ es' → EnJ w' W0.heap.size e) ∧ Srt W0.heap.size W' w' a)) := fun W' a cp es h1 h2 h3 h4 => sortJ_any h2 h3 h1.size (by omega)
  have HW0 : Hid ((w.alloc (.cells #[.slice ca n cc, .slice wa words.length wc, .int .i64 (lk : Int), .int .i64 (rg : Int)] 25)).alloc (.cells #[.int .i64 0, .int .i64 0, .int .i64 0] 30) = W0) := hW0.symm
  have HW1 : Hid (W0.alloc (.cells #[nilV] 40) = W1) := hW1.symm
  have HB0 : Hid (Below w.heap.size w W0 ∧ W0.heap[w.heap.size + 1]? = some (.cells #[.int .i64 0, .int .i64 0, .int .i64 0] 30)) := ⟨hb0, hf0⟩
  obtain ⟨s0, hs0⟩ : ∃ s0, beginX n words lk rg = s0 := ⟨_, rfl⟩
  rw [hs0] at HBEG HWALK ⊢
  obtain ⟨wl, hwl⟩ : ∃ k, words.length = k := ⟨_, rfl⟩
  rw [hwl] at HBEG HW0 ⊢
  clear hK hnt hn0 hc hfit hwf hp htab hmem hW1 hb1 hl1 hs0 hwl hW0 hb0 hf0
  go_enter Tryz.func63, Tryz.ntmps63
  go_wp2_with fail
  rw [HW0.out, HW1.out]
  refine Calls.mono HBEG.out ?_
  rintro e w2 ⟨sb, v, rfl, hq2, hb2⟩
  have HWK := HWALK.out w2 sb v hb2 hq2
  rw [hz0] at HWK HSORT
  have HWK2 := Hid.out (p := Hid _) HWK
  clear HBEG HWALK hq2 hb2 HWK HW0 HW1
  go_wp2_with fail
  refine Calls.mono HWK2.out ?_
  rintro e w3 ⟨ok, rfl, a, cp, es, HE⟩
  clear HWK2
  have hb3 := HE.out.1
  have hf3 : w3.heap[w.heap.size + 1]? = some (.cells #[.int .i64 0, .int .i64 0, .int .i64 0] 30) := (hb3.block _ (by omega)).trans HB0.out.2
  have HF3 := Hid.out (p := Hid _) hf3
  have f0 : w3.cell? ⟨w.heap.size + 1, 0, none⟩ = some (.int .i64 0) := box_cell hf3 rfl
  have f1 : w3.cell? ⟨w.heap.size + 1, 1, none⟩ = some (.int .i64 0) := box_cell hf3 rfl
  have f2 : w3.cell? ⟨w.heap.size + 1, 2, none⟩ = some (.int .i64 0) := box_cell hf3 rfl
  have ff : ∀ i, w3.frozen? ⟨w.heap.size + 1, i, none⟩ = false := fun i => box_free hf3
  clear hf3 hb3
  cases ok with
  | false =>
    have HT : Hid (Told (nxX Q.L X Q.K.mode) (outsX Q.L X Q.K.mode) s0 4000 true [] ∧ Below w.heap.size w w3) := ⟨HE.out.2.2.2.2.2.1 rfl, HB0.out.1.trans (HE.out.1.mono (by omega))⟩
    clear HE HSORT
    go_wp2_with fail
    refine bodyPost_ret (v := .tuple #[nilV, ints3 10 0 0]) (by simp [results, Tryz.results63, go_sem, cell_set, f0, f1, f2]) rfl ⟨true, none, 0, 0, [], rfl, HT.out.1, IsO.nil _ _, fun x hx => (by cases hx), fun _ => rfl, Nat.zero_le _, ?_⟩
    exact ((HT.out.2.setCell (by show w.heap.size ≤ w.heap.size + 1; omega) _).setCell (by show w.heap.size ≤ w.heap.size + 1; omega) _).setCell (by show w.heap.size ≤ w.heap.size + 1; omega) _
  | true =>
    have l3 : w3.cell? ⟨w.heap.size + 1 + 1, 0, none⟩ = some (.slice a es.length cp) := box_cell HE.out.2.1 rfl
    have HS : Hid (Calls Tryz.prog 103 #[.slice a es.length cp, .func (.func 104) #[] #[]] w3 fun e w' => e = .returned (.tuple #[]) ∧ ∃ es', Hid (es'.Perm es ∧ es'.Pairwise (fun x y => aheadO y.o x.o = false) ∧ IsO w' (w.heap.size + 1 + 1) a es.length cp es' ∧ (∀ e, e ∈ es' → EnJ w' (w.heap.size + 1 + 1) e) ∧ Srt (w.heap.size + 1 + 1) w3 w' a)) := HSORT.out w3 a cp es HE.out.1 HE.out.2.2.1 HE.out.2.2.2.1 HE.out.2.2.2.2.1
    have hel := HE.out.2.2.2.2.1
    obtain ⟨n3, hn3⟩ : ∃ k, es.length = k := ⟨_, rfl⟩
    have HN3 : Hid (es.length = n3) := hn3
    rw [hn3] at l3 HS hel
    clear HSORT hn3
    go_wp2_with fail
    refine Calls.mono HS.out ?_
    rintro e w4 ⟨rfl, es4, H4⟩
    have hf4 := H4.out.2.2.2.2.box HE.out.2.2.1 HF3.out (by decide)
    have hl4 := H4.out.2.2.2.2.box HE.out.2.2.1 HE.out.2.1 (by decide)
    rw [HN3.out] at hl4
    have l4 : w4.cell? ⟨w.heap.size + 1 + 1, 0, none⟩ = some (.slice a n3 cp) := box_cell hl4 rfl
    have hlen4 : es4.length = n3 := H4.out.2.2.1.is
    have hb4 : Below (w.heap.size + 1 + 1) W0 w4 := HE.out.1.trans H4.out.2.2.2.2.below
    have HFIN : Hid (Calls Tryz.prog 105 #[.slice a n3 cp, .func (.func 66) #[] #[]] w4 fun e w' => ∃ k es', e = .returned (.slice a k cp) ∧ w'.heap[w.heap.size + 1]? = some (.cells #[.int .i64 0, .int .i64 0, .int .i64 0] 30) ∧ Hid (∀ x y z, OutQ w Q.L X Q.K.mode s0 (.returned (.tuple #[.slice a k cp, ints3 0 0 0])) (((w'.setCell ⟨w.heap.size + 1, 0, none⟩ x).setCell ⟨w.heap.size + 1, 1, none⟩ y).setCell ⟨w.heap.size + 1, 2, none⟩ z) ∧ es' = es4)) := by
      have h := compactJ_any (es := es4) (c := cp) (a := a) (w := w4) (B := w.heap.size + 1 + 1) (by rw [hlen4]; exact H4.out.2.2.1) H4.out.2.2.2.1 (by have := hb4.size; omega) (by omega)
      rw [hlen4] at h
      refine Calls.mono h ?_
      rintro e w5 ⟨k, es5, rfl, h1, h2, h3, h4⟩
      have hI4 := H4.out.2.2.1
      have hf5 := h4.box hI4 hf4 (by decide)
      refine ⟨k, es4, rfl, hf5, fun x y z => ⟨?_, rfl⟩⟩
      have hk5 : ∀ j, j ≠ w.heap.size + 1 → (((w5.setCell ⟨w.heap.size + 1, 0, none⟩ x).setCell ⟨w.heap.size + 1, 1, none⟩ y).setCell ⟨w.heap.size + 1, 2, none⟩ z).heap[j]? = w5.heap[j]? := fun j hj => by
        rw [Below.heap_setCell _ _ _ _ hj, Below.heap_setCell _ _ _ _ hj, Below.heap_setCell _ _ _ _ hj]
      have hbw : Below w.heap.size w w5 := HB0.out.1.trans ((hb4.trans h4.below).mono (by omega))
      have hfl : ∀ {e : TypeId} {size : Nat} {v : Value} {n : Nat} {xs : List Value}, w5.ownsRow (w.heap.size + 1 + 1) e size v n xs → (((w5.setCell ⟨w.heap.size + 1, 0, none⟩ x).setCell ⟨w.heap.size + 1, 1, none⟩ y).setCell ⟨w.heap.size + 1, 2, none⟩ z).ownsRow w.heap.size e size v n xs := fun hr => own_low (fam_keeps hr (fun g hg => hk5 g (by have := (hr.lt g hg).1; omega))) (by omega)
      refine ⟨false, a, k, cp, es5, rfl, ?_, ⟨h1.is, hfl h1.own⟩, fun x hx => ⟨hfl (h3 x hx).ws, hfl (h3 x hx).pr, (h3 x hx).wl, (h3 x hx).pl⟩, fun h => (by cases h), ?_, ?_⟩
      · rw [h2, ← hlen4]
        exact HE.out.2.2.2.2.2.2 (by trivial) es4 H4.out.1 H4.out.2.1
      · have := h1.is
        rw [h2] at this
        have h6 : (compE es4 n3).length ≤ n3 := compE_len
        omega
      · exact ((hbw.setCell (by show w.heap.size ≤ w.heap.size + 1; omega) _).setCell (by show w.heap.size ≤ w.heap.size + 1; omega) _).setCell (by show w.heap.size ≤ w.heap.size + 1; omega) _
    clear HS H4 HE l3 f0 f1 f2 ff hf4 hl4 hlen4 hb4
    go_wp2_with fail
    refine Calls.mono HFIN.out ?_
    rintro e w5 ⟨k, es5, rfl, hf5, H5⟩
    have f0 : w5.cell? ⟨w.heap.size + 1, 0, none⟩ = some (.int .i64 0) := box_cell hf5 rfl
    have f1 : w5.cell? ⟨w.heap.size + 1, 1, none⟩ = some (.int .i64 0) := box_cell hf5 rfl
    have f2 : w5.cell? ⟨w.heap.size + 1, 2, none⟩ = some (.int .i64 0) := box_cell hf5 rfl
    have ff : ∀ i, w5.frozen? ⟨w.heap.size + 1, i, none⟩ = false := fun i => box_free hf5
    clear HFIN hf5 l4
    go_wp2_with fail
    refine bodyPost_ret (v := .tuple #[.slice a k cp, ints3 0 0 0]) (by simp [results, Tryz.results63, go_sem, cell_set, f0, f1, f2]) rfl ?_
    exact (H5.out _ _ _).1

end Go.Proofs.YtgofbkgfonlceacGreatDoor
