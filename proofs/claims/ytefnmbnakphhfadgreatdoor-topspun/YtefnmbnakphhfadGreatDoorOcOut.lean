/-
  All outcomes of a program, by the program: Outcomes.
  All outcomes of a program, by the program: SC and TSO.
-/
import Derived.Test.YtefnmbnakphhfadGreatDoorOcComp2
import Derived.Test.YtefnmbnakphhfadGreatDoorPBegin
import Derived.Test.YtefnmbnakphhfadGreatDoorWTell3
import Derived.Test.YtefnmbnakphhfadGreatDoorCheckA
import Derived.Test.YtefnmbnakphhfadGreatDoorPNew
namespace Go.Proofs.YtefnmbnakphhfadGreatDoor
section
open Go.RowKit Go.Sort Go.Shelf

theorem MemQ.up {Q : Cd} {w0 w W : World} {mb : Nat} {v : Rp → Value} {words : List Int} {lk : Nat} (h : MemQ Q w0 w mb v words lk) (hb : Below w.heap.size w W) : MemQ Q w0 W mb v words lk :=
  ⟨fun r hr => fam_keeps (h.own r hr) (fun g hg => hb.block g (h.lt hg)), h.apart, h.st, h.thr, h.prints, h.regs, h.mem, h.box, h.below.trans (hb.mono h.below.size)⟩
/-- A kind of memory, with all that is known of it. -/
structure KindOk (K : Mk) (tf cf : Nat) : Prop where
  hM : MLaw K
  hT : MTell K tf
  hC : MClone K cf
  ty : ∀ r, ¬ wTy (pTy K r)
  oty : ∀ r, pTy K r ≠ 46 ∧ pTy K r ≠ 42
/-- What Outcomes tells. -/
def OutQ (w : World) (L : Nat → Nat) (X : Nat → Nat → Nat → Int) (mode : Int) (s0 : Sx) (e : Ending) (w' : World) : Prop :=
  ∃ (full : Bool) (a : Option Addr) (len cap : Nat) (es : List En), e = .returned (.tuple #[.slice a len cap, ints3 (if full then 10 else 0) 0 0]) ∧ Told (nxX L X mode) (outsX L X mode) s0 4000 full (es.map En.o) ∧ IsO w' w.heap.size a len cap es ∧ (∀ x, x ∈ es → EnJ w' w.heap.size x) ∧ (full = true → len = 0) ∧ len ≤ 100000 ∧ Below w.heap.size w w'
theorem Srt.box {B : Nat} {w w' : World} {a : Option Addr} {n c k : Nat} {es : List En} {cs : Array Value} {t : TypeId} (h : Srt B w w' a) (hi : IsO w B a n c es) (hk : w.heap[k]? = some (.cells cs t (0, 0))) (ht : 46 ≠ t) : w'.heap[k]? = some (.cells cs t (0, 0)) :=
  (h.kept k (box_lt hk) (fun p hp e => own_type hi.own hk ht (by rw [hp]; exact congrArg some e))).trans hk
/-- What is left when all was gone through. -/
theorem out_told {c : Wc} {lb : Nat} {W : World} {K Z F : List Sx} {os : List Nat} {es es' : List En} (h : WlI c (ObO c lb) W K Z [] F os) (hk : K.length ≤ 4000) (he : ∀ o, o ∈ es.map En.o ↔ outcX c.Q.L c.X c.mode Z F o) (hp : es'.Perm es) (hs : es'.Pairwise (fun x y => aheadO y.o x.o = false)) :
    Told (nxX c.Q.L c.X c.mode) (outsX c.Q.L c.X c.mode) c.s0 4000 false ((compE es' es'.length).map En.o) := by
  obtain ⟨h1, h2⟩ := compE_all hs
  refine h.df.told h1 (fun o => ?_) hk
  rw [h2 o, (hp.map En.o).mem_iff]
  exact he o

set_option maxRecDepth 100000 in
set_option maxHeartbeats 3200000 in
/-- Outcomes. -/
theorem outcomes_any (w0 w : World) (Q : Cd) (tf cf : Nat) (ca : Option Addr) (n cc : Nat) (wa : Option Addr) (wc lk rg mb : Nat) (v0 : Rp → Value) (words : List Int) (X : Nat → Nat → Nat → Int) (hK : KindOk Q.K tf cf) (hnt : Q.nt = n) (hn0 : 0 < n) (hc : COk n Q.L X words.length lk rg) (hfit : ∀ t i, t < n → i < Q.L t → I64n (X t i 2)) (hwf : ∀ x, x ∈ words → I64n x) (hp : PIn w ca n Q.A Q.L Q.C X) (htab : TabB w.heap.size w) (hmem : MemQ Q w0 w mb v0 words lk) :
    Calls Tryz.prog 31 #[prgV ca n cc wa words.length wc lk rg, .iface Q.K.tid (.pointer (some ⟨Q.top mb, 0, none⟩))] w (OutQ w Q.L X Q.K.mode (beginX n words lk rg)) := by
  obtain ⟨W0, hW0⟩ : ∃ V, V = (w.alloc (.cells #[.slice ca n cc, .slice wa words.length wc, .int .i64 (lk : Int), .int .i64 (rg : Int)] 25)).alloc (.cells #[.int .i64 0, .int .i64 0, .int .i64 0] 29) := ⟨_, rfl⟩
  have hz0 : W0.heap.size = w.heap.size + 1 + 1 := by rw [hW0]; simp
  have hb0 : Below w.heap.size w W0 := by rw [hW0]; exact ((Below.refl _ _).alloc (Nat.le_refl _) _).alloc (by simp) _
  obtain ⟨W1, hW1⟩ : ∃ V, V = W0.alloc (.cells #[nilV] 42) := ⟨_, rfl⟩
  have hb1 : Below W0.heap.size W0 W1 := by rw [hW1]; exact (Below.refl _ _).alloc (Nat.le_refl _) _
  have hl1 : W1.heap[W0.heap.size]? = some (.cells #[nilV] 42) := by rw [hW1]; exact heap_alloc_new _ _
  have hf0 : W0.heap[w.heap.size + 1]? = some (.cells #[.int .i64 0, .int .i64 0, .int .i64 0] 29) := by
    have := heap_alloc_new (w.alloc (.cells #[.slice ca n cc, .slice wa words.length wc, .int .i64 (lk : Int), .int .i64 (rg : Int)] 25)) (.cells #[.int .i64 0, .int .i64 0, .int .i64 0] 29)
    rw [World.size_alloc] at this
    rw [hW0]; exact this
  have HWALK : Hid (∀ w2 sb v, Below W1.heap.size W1 w2 → QSt w2 w0.heap.size Q sb mb v (beginX n words lk rg) → Calls Tryz.prog 53 #[.pointer (some ⟨sb, 0, none⟩), .func (.func 48) #[] #[.pointer (some ⟨W0.heap.size, 0, none⟩)], .func (.func 52) #[] #[.pointer (some ⟨W0.heap.size, 0, none⟩)]] w2 fun e W' => ∃ ok : Bool, e = .returned (.bool ok) ∧ ∃ a cp es, Hid (Below W0.heap.size W0 W' ∧ W'.heap[W0.heap.size]? = some (.cells #[.slice a es.length cp] 42) ∧ IsO W' W0.heap.size a es.length cp es ∧ (∀ x, x ∈ es → EnJ W' W0.heap.size x) ∧ es.length ≤ 90000 ∧
      (ok = false → Told (nxX Q.L X Q.K.mode) (outsX Q.L X Q.K.mode) (beginX n words lk rg) 4000 true []) ∧ (ok = true → ∀ es' : List En, es'.Perm es → es'.Pairwise (fun x y => aheadO y.o x.o = false) → Told (nxX Q.L X Q.K.mode) (outsX Q.L X Q.K.mode) (beginX n words lk rg) 4000 false ((compE es' es'.length).map En.o)))) := fun w2 sb v hb2 hq => by
    have hs2 : W1.heap.size ≤ w2.heap.size := hb2.size
    have hs1 : W1.heap.size = W0.heap.size + 1 := by rw [hW1]; simp
    have hbw : Below W0.heap.size W0 w2 := hb1.trans (hb2.mono hb1.size)
    obtain ⟨c, hcd⟩ : ∃ c : Wc, c = ⟨Q, ca, X, n, words.length, lk, rg, beginX n words lk rg, W0.heap.size, W0, tf, cf, w2.heap.size, w2.heap.size + 1, w2.heap.size + 1 + 1 + 1, w2.heap.size + 1 + 1⟩ := ⟨_, rfl⟩
    have hok : WcOk c := by
      rw [hcd]
      exact ⟨hK.hM, hK.hT, hK.hC, hK.ty, hnt, hn0, hc, hfit, hp.below hb0, fun V hV => htab V (hb0.trans (hV.mono hb0.size)), rfl, by show W0.heap.size ≤ w2.heap.size; omega, by show W0.heap.size ≤ w2.heap.size + 1; omega, by show W0.heap.size ≤ w2.heap.size + 1 + 1 + 1; omega, by show W0.heap.size ≤ w2.heap.size + 1 + 1; omega⟩
    have hO := obs_out c hok (by rw [hcd]; exact hK.oty) W0.heap.size
    have hs0 : StP c 0 c.s0 := by
      rw [hcd]
      exact ⟨begin_ok, rfl, LkI.begin, VOk.begin hwf, by simp [beginX]⟩
    have hob : ∀ V, Below w2.heap.size w2 V → w2.heap.size < V.heap.size → ObO c W0.heap.size V [] [] := fun V hbV hlt => by
      have hl : V.heap[W0.heap.size]? = some (.cells #[nilV] 42) := by
        rw [hbV.block _ (by omega), hb2.block _ (by omega)]; exact hl1
      refine ⟨[], ⟨⟨none, 0, hl, IsO.nil _ _, fun p hp => (by cases hp)⟩, fun e he => (by cases he), ?_, ?_, ?_⟩, fun o => ?_, Nat.le_refl _⟩
      · rw [hcd]; exact hlt
      · rw [hcd]; exact Nat.le_refl _
      · rw [hcd]; show W0.heap.size ≠ w2.heap.size; omega
      · constructor
        · intro h; cases h
        · rintro (⟨s, hs, _⟩ | ⟨s, hs, _⟩) <;> cases hs
    have hq' : QSt w2 0 (c.Q.at Q.bb) sb mb v c.s0 := by rw [hcd]; exact hq.zero
    have h := walk_any c hok (NO c.km) (ObO c W0.heap.size) _ _ _ _ hO w2 (by rw [hcd]) (by rw [hcd]) (by rw [hcd]) (by rw [hcd]) (by rw [hcd]; exact hbw) sb mb Q.bb v hq' hs0 hob
    refine Calls.mono h ?_
    rintro e W' ⟨K, Z, O, F, os, he, hwl, hO0⟩
    obtain ⟨es, h1, h2, h3⟩ := hwl.ob
    obtain ⟨a, cp, g1, g2, _⟩ := h1.box
    have hlen := hwl.df.len
    have hkl := hwl.kl
    have hfl := hwl.fl
    have hlow := hwl.wk.low
    have hJ := h1.ok
    rw [show c.B = W0.heap.size by rw [hcd]] at g2 hlow hJ
    rw [show c.w0 = W0 by rw [hcd]] at hlow
    refine ⟨decide (K.length ≤ 4000), he, a, cp, es, hlow, g1, g2, hJ, by omega, fun hf => ?_, fun ht es' hp' hs' => ?_⟩
    · have := hwl.df.full (mx := 4000) [] (by have := of_decide_eq_false hf; omega)
      rw [hcd] at this
      exact this
    · have hk := of_decide_eq_true ht
      rw [hO0 hk] at hwl
      have := out_told hwl hk h2 hp' hs'
      rw [hcd] at this
      exact this
  have HBEG : Hid (Calls Tryz.prog 54 #[prgV ca n cc wa words.length wc lk rg, .iface Q.K.tid (.pointer (some ⟨Q.top mb, 0, none⟩))] W1 fun e w' => ∃ sb v, e = .returned (.pointer (some ⟨sb, 0, none⟩)) ∧ QSt w' w0.heap.size Q sb mb v (beginX n words lk rg) ∧ Below W1.heap.size W1 w') := by
    have hbV : Below w.heap.size w W1 := hb0.trans (hb1.mono hb0.size)
    refine Calls.mono (pbegin_any w0 W1 ca n cc wa wc lk rg mb v0 words Q X (hmem.up hbV) (hp.below hbV) hc.n4 hc.rg0 hc.rg2) ?_
    rintro e w' ⟨sb, v, he, _, h1, h2⟩
    exact ⟨sb, v, he, h1, h2⟩
  -- the last steps
  have HSORT : Hid (∀ W' a cp es, Below W0.heap.size W0 W' → IsO W' W0.heap.size a es.length cp es → (∀ x, x ∈ es → EnJ W' W0.heap.size x) → es.length ≤ 90000 → Calls Tryz.prog 55 #[.slice a es.length cp, .func (.func 56) #[] #[]] W' fun e w' => e = .returned (.tuple #[]) ∧ ∃ es', Hid (es'.Perm es ∧ es'.Pairwise (fun x y => aheadO y.o x.o = false) ∧ IsO w' W0.heap.size a es.length cp es' ∧ (∀ e, e ∈ es' → EnJ w' W0.heap.size e) ∧ Srt W0.heap.size W' w' a)) := fun W' a cp es h1 h2 h3 h4 => sortJ_any h2 h3 h1.size (by omega)
  have HW0 : Hid ((w.alloc (.cells #[.slice ca n cc, .slice wa words.length wc, .int .i64 (lk : Int), .int .i64 (rg : Int)] 25)).alloc (.cells #[.int .i64 0, .int .i64 0, .int .i64 0] 29) = W0) := hW0.symm
  have HW1 : Hid (W0.alloc (.cells #[nilV] 42) = W1) := hW1.symm
  have HB0 : Hid (Below w.heap.size w W0 ∧ W0.heap[w.heap.size + 1]? = some (.cells #[.int .i64 0, .int .i64 0, .int .i64 0] 29)) := ⟨hb0, hf0⟩
  obtain ⟨s0, hs0⟩ : ∃ s0, beginX n words lk rg = s0 := ⟨_, rfl⟩
  rw [hs0] at HBEG HWALK ⊢
  obtain ⟨wl, hwl⟩ : ∃ k, words.length = k := ⟨_, rfl⟩
  rw [hwl] at HBEG HW0 ⊢
  clear hK hnt hn0 hc hfit hwf hp htab hmem hW1 hb1 hl1 hs0 hwl hW0 hb0 hf0
  go_enter Tryz.func31, Tryz.ntmps31
  go_wp2_with fail
  rw [HW0.out, HW1.out]
  refine Calls.mono HBEG.out ?_
  rintro e w2 ⟨sb, v, rfl, hq2, hb2⟩
  have HWK := HWALK.out w2 sb v hb2 hq2
  rw [hz0] at HWK HSORT
  have HWK2 := Hid.out (p := Hid _) HWK
  clear HBEG HWALK hq2 hb2 HWK HW0 HW1
  go_wp2_with fail
  refine Calls.mono HWK2.out ?_
  rintro e w3 ⟨ok, rfl, a, cp, es, HE⟩
  clear HWK2
  have hb3 := HE.out.1
  have hf3 : w3.heap[w.heap.size + 1]? = some (.cells #[.int .i64 0, .int .i64 0, .int .i64 0] 29) := (hb3.block _ (by omega)).trans HB0.out.2
  have HF3 := Hid.out (p := Hid _) hf3
  have f0 : w3.cell? ⟨w.heap.size + 1, 0, none⟩ = some (.int .i64 0) := box_cell hf3 rfl
  have f1 : w3.cell? ⟨w.heap.size + 1, 1, none⟩ = some (.int .i64 0) := box_cell hf3 rfl
  have f2 : w3.cell? ⟨w.heap.size + 1, 2, none⟩ = some (.int .i64 0) := box_cell hf3 rfl
  have ff : ∀ i, w3.frozen? ⟨w.heap.size + 1, i, none⟩ = false := fun i => box_free hf3
  clear hf3 hb3
  cases ok with
  | false =>
    have HT : Hid (Told (nxX Q.L X Q.K.mode) (outsX Q.L X Q.K.mode) s0 4000 true [] ∧ Below w.heap.size w w3) := ⟨HE.out.2.2.2.2.2.1 rfl, HB0.out.1.trans (HE.out.1.mono (by omega))⟩
    clear HE HSORT
    go_wp2_with fail
    refine bodyPost_ret (v := .tuple #[nilV, ints3 10 0 0]) (by simp [results, Tryz.results31, go_sem, cell_set, f0, f1, f2]) rfl ⟨true, none, 0, 0, [], rfl, HT.out.1, IsO.nil _ _, fun x hx => (by cases hx), fun _ => rfl, Nat.zero_le _, ?_⟩
    exact ((HT.out.2.setCell (by show w.heap.size ≤ w.heap.size + 1; omega) _).setCell (by show w.heap.size ≤ w.heap.size + 1; omega) _).setCell (by show w.heap.size ≤ w.heap.size + 1; omega) _
  | true =>
    have l3 : w3.cell? ⟨w.heap.size + 1 + 1, 0, none⟩ = some (.slice a es.length cp) := box_cell HE.out.2.1 rfl
    have HS : Hid (Calls Tryz.prog 55 #[.slice a es.length cp, .func (.func 56) #[] #[]] w3 fun e w' => e = .returned (.tuple #[]) ∧ ∃ es', Hid (es'.Perm es ∧ es'.Pairwise (fun x y => aheadO y.o x.o = false) ∧ IsO w' (w.heap.size + 1 + 1) a es.length cp es' ∧ (∀ e, e ∈ es' → EnJ w' (w.heap.size + 1 + 1) e) ∧ Srt (w.heap.size + 1 + 1) w3 w' a)) := HSORT.out w3 a cp es HE.out.1 HE.out.2.2.1 HE.out.2.2.2.1 HE.out.2.2.2.2.1
    have hel := HE.out.2.2.2.2.1
    obtain ⟨n3, hn3⟩ : ∃ k, es.length = k := ⟨_, rfl⟩
    have HN3 : Hid (es.length = n3) := hn3
    rw [hn3] at l3 HS hel
    clear HSORT hn3
    go_wp2_with fail
    refine Calls.mono HS.out ?_
    rintro e w4 ⟨rfl, es4, H4⟩
    have hf4 := H4.out.2.2.2.2.box HE.out.2.2.1 HF3.out (by decide)
    have hl4 := H4.out.2.2.2.2.box HE.out.2.2.1 HE.out.2.1 (by decide)
    rw [HN3.out] at hl4
    have l4 : w4.cell? ⟨w.heap.size + 1 + 1, 0, none⟩ = some (.slice a n3 cp) := box_cell hl4 rfl
    have hlen4 : es4.length = n3 := H4.out.2.2.1.is
    have hb4 : Below (w.heap.size + 1 + 1) W0 w4 := HE.out.1.trans H4.out.2.2.2.2.below
    have HFIN : Hid (Calls Tryz.prog 57 #[.slice a n3 cp, .func (.func 44) #[] #[]] w4 fun e w' => ∃ k es', e = .returned (.slice a k cp) ∧ w'.heap[w.heap.size + 1]? = some (.cells #[.int .i64 0, .int .i64 0, .int .i64 0] 29) ∧ Hid (∀ x y z, OutQ w Q.L X Q.K.mode s0 (.returned (.tuple #[.slice a k cp, ints3 0 0 0])) (((w'.setCell ⟨w.heap.size + 1, 0, none⟩ x).setCell ⟨w.heap.size + 1, 1, none⟩ y).setCell ⟨w.heap.size + 1, 2, none⟩ z) ∧ es' = es4)) := by
      have h := compactJ_any (es := es4) (c := cp) (a := a) (w := w4) (B := w.heap.size + 1 + 1) (by rw [hlen4]; exact H4.out.2.2.1) H4.out.2.2.2.1 (by have := hb4.size; omega) (by omega)
      rw [hlen4] at h
      refine Calls.mono h ?_
      rintro e w5 ⟨k, es5, rfl, h1, h2, h3, h4⟩
      have hI4 := H4.out.2.2.1
      have hf5 := h4.box hI4 hf4 (by decide)
      refine ⟨k, es4, rfl, hf5, fun x y z => ⟨?_, rfl⟩⟩
      have hk5 : ∀ j, j ≠ w.heap.size + 1 → (((w5.setCell ⟨w.heap.size + 1, 0, none⟩ x).setCell ⟨w.heap.size + 1, 1, none⟩ y).setCell ⟨w.heap.size + 1, 2, none⟩ z).heap[j]? = w5.heap[j]? := fun j hj => by
        rw [Below.heap_setCell _ _ _ _ hj, Below.heap_setCell _ _ _ _ hj, Below.heap_setCell _ _ _ _ hj]
      have hbw : Below w.heap.size w w5 := HB0.out.1.trans ((hb4.trans h4.below).mono (by omega))
      have hfl : ∀ {e : TypeId} {size : Nat} {v : Value} {n : Nat} {xs : List Value}, w5.ownsRow (w.heap.size + 1 + 1) e size v n xs → (((w5.setCell ⟨w.heap.size + 1, 0, none⟩ x).setCell ⟨w.heap.size + 1, 1, none⟩ y).setCell ⟨w.heap.size + 1, 2, none⟩ z).ownsRow w.heap.size e size v n xs := fun hr => own_low (fam_keeps hr (fun g hg => hk5 g (by have := (hr.lt g hg).1; omega))) (by omega)
      refine ⟨false, a, k, cp, es5, rfl, ?_, ⟨h1.is, hfl h1.own⟩, fun x hx => ⟨hfl (h3 x hx).ws, hfl (h3 x hx).pr, (h3 x hx).wl, (h3 x hx).pl⟩, fun h => (by cases h), ?_, ?_⟩
      · rw [h2, ← hlen4]
        exact HE.out.2.2.2.2.2.2 (by trivial) es4 H4.out.1 H4.out.2.1
      · have := h1.is
        rw [h2] at this
        have h6 : (compE es4 n3).length ≤ n3 := compE_len
        omega
      · exact ((hbw.setCell (by show w.heap.size ≤ w.heap.size + 1; omega) _).setCell (by show w.heap.size ≤ w.heap.size + 1; omega) _).setCell (by show w.heap.size ≤ w.heap.size + 1; omega) _
    clear HS H4 HE l3 f0 f1 f2 ff hf4 hl4 hlen4 hb4
    go_wp2_with fail
    refine Calls.mono HFIN.out ?_
    rintro e w5 ⟨k, es5, rfl, hf5, H5⟩
    have f0 : w5.cell? ⟨w.heap.size + 1, 0, none⟩ = some (.int .i64 0) := box_cell hf5 rfl
    have f1 : w5.cell? ⟨w.heap.size + 1, 1, none⟩ = some (.int .i64 0) := box_cell hf5 rfl
    have f2 : w5.cell? ⟨w.heap.size + 1, 2, none⟩ = some (.int .i64 0) := box_cell hf5 rfl
    have ff : ∀ i, w5.frozen? ⟨w.heap.size + 1, i, none⟩ = false := fun i => box_free hf5
    clear HFIN hf5 l4
    go_wp2_with fail
    refine bodyPost_ret (v := .tuple #[.slice a k cp, ints3 0 0 0]) (by simp [results, Tryz.results31, go_sem, cell_set, f0, f1, f2]) rfl ?_
    exact (H5.out _ _ _).1
end

section
open Go.RowKit Go.Sort Go.Shelf

theorem plain_kind : KindOk plainK 155 164 where
  hM := plain_law
  hT := plain_tell
  hC := plain_clone
  ty r := by cases r <;> simp [wTy, pTy, plainK]
  oty r := by cases r <;> simp [pTy, plainK]
theorem buf_kind : KindOk bufK 143 136 where
  hM := buf_law
  hT := buf_tell
  hC := buf_clone
  ty r := by cases r <;> simp [wTy, pTy, bufK]
  oty r := by cases r <;> simp [pTy, bufK]
/-- What SC and TSO tell of a program that passed Check. -/
def SpcQ (w : World) (L : Nat → Nat) (X : Nat → Nat → Nat → Int) (mode : Int) (s0 : Sx) (e : Ending) (w' : World) : Prop :=
  ∃ (full : Bool) (a : Option Addr) (len cap : Nat) (es : List En), e = .returned (.tuple #[.slice a len cap, ints3 (if full then 10 else 0) 0 0]) ∧ Told (nxX L X mode) (outsX L X mode) s0 4000 full (es.map En.o) ∧ es.length = len ∧ EIn w' a es ∧ (∀ x, x ∈ es → EnOk w' x) ∧ (full = true → len = 0) ∧ len ≤ 100000 ∧ Below w.heap.size w w'
theorem IsO.ein {w : World} {B : Nat} {a : Option Addr} {n c : Nat} {es : List En} (h : IsO w B a n c es) : EIn w a es := fun i hi => by
  rcases h.lies with ⟨_, hz, _⟩ | ⟨g, cur, rfl, _⟩
  · have := h.is; omega
  · obtain ⟨h1, h2, h3⟩ := h.cells (k := i) (by rw [← h.is]; exact hi)
    exact ⟨g, 0, rfl, by rw [Nat.zero_add]; exact h1, by rw [Nat.zero_add]; exact h2, by rw [Nat.zero_add]; exact h3⟩
theorem OutQ.spc {w W w' : World} {L : Nat → Nat} {X : Nat → Nat → Nat → Int} {mode : Int} {s0 : Sx} {e : Ending} (h : OutQ W L X mode s0 e w') (hb : Below w.heap.size w W) : SpcQ w L X mode s0 e w' := by
  obtain ⟨full, a, len, cap, es, h1, h2, h3, h4, h5, h6, h7⟩ := h
  exact ⟨full, a, len, cap, es, h1, h2, h3.is, h3.ein, fun x hx => (h4 x hx).ok, h5, h6, hb.trans (h7.mono hb.size)⟩
theorem TabB.up {w W : World} (h : TabB w.heap.size w) (hb : Below w.heap.size w W) : TabB W.heap.size W := fun w' h' => h w' (hb.trans (h'.mono hb.size))
theorem OutQ.form {w w' : World} {L : Nat → Nat} {X : Nat → Nat → Nat → Int} {mode : Int} {s0 : Sx} {e : Ending} (h : OutQ w L X mode s0 e w') : (∃ (a : Option Addr) (l c : Nat) (z : Int), e = .returned (.tuple #[.slice a l c, ints3 z 0 0])) ∧ Below w.heap.size w w' := by
  obtain ⟨full, a, len, cap, es, h1, _, _, _, _, _, h7⟩ := h
  exact ⟨⟨a, len, cap, _, h1⟩, h7⟩
theorem OutQ.move {w W w4 w' : World} {L : Nat → Nat} {X : Nat → Nat → Nat → Int} {mode : Int} {s0 : Sx} {e : Ending} (h : OutQ W L X mode s0 e w4) (hW : w.heap.size ≤ W.heap.size) (hk : ∀ j, W.heap.size ≤ j → w'.heap[j]? = w4.heap[j]?) (hb : Below w.heap.size w w') : OutQ w L X mode s0 e w' := by
  obtain ⟨full, a, len, cap, es, h1, h2, h3, h4, h5, h6, h7⟩ := h
  have hr : ∀ {e : TypeId} {size : Nat} {v : Value} {n : Nat} {xs : List Value}, w4.ownsRow W.heap.size e size v n xs → w'.ownsRow w.heap.size e size v n xs := fun hr => own_low (fam_keeps hr (fun g hg => hk g (hr.lt g hg).1)) hW
  exact ⟨full, a, len, cap, es, h1, h2, ⟨h3.is, hr h3.own⟩, fun x hx => ⟨hr (h4 x hx).ws, hr (h4 x hx).pr, (h4 x hx).wl, (h4 x hx).pl⟩, h5, h6, hb⟩
set_option maxRecDepth 100000 in
set_option maxHeartbeats 3200000 in
/-- SC of a program that passed Check. -/
theorem sc_yes (w : World) (ca : Option Addr) (n cc : Nat) (wa : Option Addr) (wc lk rg : Nat) (words : List Int) (A : Nat → Option Addr) (L C : Nat → Nat) (X : Nat → Nat → Nat → Int) (HR : Hid (chk n L X words.length lk rg = (0, 0, 0))) (hp : PIn w ca n A L C X) (hc : COk n L X words.length lk rg) (hn0 : 0 < n) (hw : SIs w wa words) (hnil : wa = none → words = [] ∧ wc = 0) (hfit : ∀ t i, t < n → i < L t → I64n (X t i 2)) (hwf : ∀ x, x ∈ words → I64n x) (htab : TabB w.heap.size w) :
    Calls Tryz.prog 17 #[prgV ca n cc wa words.length wc lk rg] w (OutQ w L X 0 (beginX n words lk rg)) := by
  have HCHK : Hid (∀ W, Below w.heap.size w W → Calls Tryz.prog 15 #[prgV ca n cc wa words.length wc lk rg] W fun e w' => e = .returned (ints3 0 0 0) ∧ Below W.heap.size W w') := fun W hb => check_any ca n cc wa words.length wc lk rg A L C X 0 0 0 HR W (hp.below hb)
  have HNEW : Hid (∀ W, Below w.heap.size w W → Calls Tryz.prog 38 #[prgV ca n cc wa words.length wc lk rg] W fun e w' => ∃ mb wv ov, e = .returned (.pointer (some ⟨mb, 0, none⟩)) ∧ Mem0 W w' mb wv ov words lk) := fun W hb => newPlain_any W ca n cc wa wc lk rg words (hw.below hb) hnil hc.m64 hc.lk4
  have HOUT : Hid (∀ W w' mb wv ov, Below w.heap.size w W → Mem0 W w' mb wv ov words lk → Calls Tryz.prog 31 #[prgV ca n cc wa words.length wc lk rg, .iface 74 (.pointer (some ⟨mb, 0, none⟩))] w' (OutQ w' L X 0 (beginX n words lk rg))) := fun W w' mb wv ov hb hm => by
    have hb2 : Below w.heap.size w w' := hb.trans (hm.below.mono hb.size)
    exact outcomes_any W w' ⟨A, L, C, plainK, 0, n⟩ _ _ ca n cc wa wc lk rg mb (m0V mb wv ov) words X plain_kind rfl hn0 hc hfit hwf (hp.below hb2) (htab.up hb2) (hm.q rfl)
  obtain ⟨s0, hs0⟩ : ∃ s0, beginX n words lk rg = s0 := ⟨_, rfl⟩
  rw [hs0] at HOUT ⊢
  obtain ⟨wl, hwl⟩ : ∃ k, words.length = k := ⟨_, rfl⟩
  rw [hwl] at HCHK HNEW HOUT ⊢
  clear HR hp hc hn0 hw hnil hfit hwf htab hs0 hwl
  obtain ⟨PB, hPB⟩ : ∃ o : Obj, o = .cells #[.slice ca n cc, .slice wa wl wc, .int .i64 (lk : Int), .int .i64 (rg : Int)] 25 := ⟨_, rfl⟩
  obtain ⟨W0, hW0⟩ : ∃ V, V = (w.alloc PB).alloc (.cells #[.int .i64 0, .int .i64 0, .int .i64 0] 29) := ⟨_, rfl⟩
  have hz0 : W0.heap.size = w.heap.size + 1 + 1 := by rw [hW0]; simp
  have hb0 : Below w.heap.size w W0 := by rw [hW0]; exact ((Below.refl _ _).alloc (Nat.le_refl _) _).alloc (by simp) _
  have hp0 : W0.heap[w.heap.size]? = some PB := by rw [hW0]; exact box_later (heap_alloc_new _ _) _
  have hf0 : W0.heap[w.heap.size + 1]? = some (.cells #[.int .i64 0, .int .i64 0, .int .i64 0] 29) := by
    have := heap_alloc_new (w.alloc PB) (.cells #[.int .i64 0, .int .i64 0, .int .i64 0] 29)
    rw [World.size_alloc] at this
    rw [hW0]; exact this
  have HW0 : Hid ((w.alloc (.cells #[.slice ca n cc, .slice wa wl wc, .int .i64 (lk : Int), .int .i64 (rg : Int)] 25)).alloc (.cells #[.int .i64 0, .int .i64 0, .int .i64 0] 29) = W0) := by rw [hW0, hPB]; exact rfl
  have HAT : Hid (∀ V, Below W0.heap.size W0 V → (V.cell? ⟨w.heap.size, 0, none⟩ = some (.slice ca n cc) ∧ V.cell? ⟨w.heap.size, 1, none⟩ = some (.slice wa wl wc) ∧ V.cell? ⟨w.heap.size, 2, none⟩ = some (.int .i64 (lk : Int)) ∧ V.cell? ⟨w.heap.size, 3, none⟩ = some (.int .i64 (rg : Int))) ∧ (V.cell? ⟨w.heap.size + 1, 0, none⟩ = some (.int .i64 0) ∧ V.cell? ⟨w.heap.size + 1, 1, none⟩ = some (.int .i64 0) ∧ V.cell? ⟨w.heap.size + 1, 2, none⟩ = some (.int .i64 0)) ∧ ∀ i, V.frozen? ⟨w.heap.size + 1, i, none⟩ = false) := fun V hb => by
    have e1 := (hb.block w.heap.size (by omega)).trans hp0
    have e2 := (hb.block (w.heap.size + 1) (by omega)).trans hf0
    rw [hPB] at e1
    exact ⟨⟨box_cell e1 rfl, box_cell e1 rfl, box_cell e1 rfl, box_cell e1 rfl⟩, ⟨box_cell e2 rfl, box_cell e2 rfl, box_cell e2 rfl⟩, fun i => box_free e2⟩
  have HFIN : Hid (∀ V w3 e w4 x y z, Below W0.heap.size W0 V → Below V.heap.size V w3 → OutQ w3 L X 0 s0 e w4 → OutQ w L X 0 s0 e (((w4.setCell ⟨w.heap.size + 1, 0, none⟩ x).setCell ⟨w.heap.size + 1, 1, none⟩ y).setCell ⟨w.heap.size + 1, 2, none⟩ z)) := fun V w3 e w4 x y z h1 h2 h3 => by
    have hb3 : Below W0.heap.size W0 w3 := h1.trans (h2.mono h1.size)
    have hsz := hb3.size
    have hb4 : Below w3.heap.size w3 w4 := h3.form.2
    have hbw : Below w.heap.size w w4 := hb0.trans ((hb3.trans (hb4.mono hsz)).mono hb0.size)
    refine h3.move (by omega) (fun j hj => ?_) (((hbw.setCell (by show w.heap.size ≤ w.heap.size + 1; omega) _).setCell (by show w.heap.size ≤ w.heap.size + 1; omega) _).setCell (by show w.heap.size ≤ w.heap.size + 1; omega) _)
    have hne : j ≠ w.heap.size + 1 := by omega
    rw [Below.heap_setCell _ _ _ _ hne, Below.heap_setCell _ _ _ _ hne, Below.heap_setCell _ _ _ _ hne]
  have HB0 := Hid.out (p := Hid _) hb0
  clear hPB hW0 hp0 hf0 hb0
  go_enter Tryz.func17, Tryz.ntmps17
  go_wp2_with fail
  rw [HW0.out]
  refine Calls.mono (HCHK.out _ HB0.out) ?_
  rintro e w1 ⟨rfl, hb1⟩
  obtain ⟨⟨p0, p1, p2, p3⟩, ⟨f0, f1, f2⟩, ff⟩ := HAT.out w1 hb1
  have HB1 := Hid.out (p := Hid _) hb1
  clear HCHK HW0 hb1
  go_wp2_with fail
  obtain ⟨V, hV⟩ : ∃ V, w1.alloc (.cells #[.int .i64 0, .int .i64 0, .int .i64 0] 29) = V := ⟨_, rfl⟩
  rw [hV]
  have hbV : Below W0.heap.size W0 V := by rw [← hV]; exact HB1.out.alloc HB1.out.size _
  have HBV := Hid.out (p := Hid _) hbV
  have HWV : Hid (Below w.heap.size w V) := HB0.out.trans (hbV.mono HB0.out.size)
  clear p0 p1 p2 p3 f0 f1 f2 ff HB1 hV
  obtain ⟨⟨p0, p1, p2, p3⟩, _, _⟩ := HAT.out V hbV
  clear hbV
  go_region_with (first | (go_at_call 38; refine Calls.mono (HNEW.out _ HWV.out.drew) ?_; rintro e w3 ⟨mb, wv, ov, rfl, hm⟩; have hb3 : Below W0.heap.size W0 w3 := HBV.out.drew.trans (hm.below.mono HBV.out.size); obtain ⟨⟨q0, q1, q2, q3⟩, _, _⟩ := HAT.out w3 hb3; have HB3 := Hid.out (p := Hid _) hb3; have HM := Hid.out (p := Hid _) hm; clear hm hb3) | (go_at_call 31; refine Calls.mono (HOUT.out _ w3 mb wv ov HWV.out.drew HM.out) ?_; intro e w4 h4; have hfin := fun x y z => HFIN.out _ _ e w4 x y z HBV.out.drew HM.out.below h4; have HQ := Hid.out (p := Hid _) hfin; clear hfin; obtain ⟨⟨a4, l4, c4, z4, rfl⟩, hb4⟩ := h4.form; clear h4; obtain ⟨_, ⟨f0, f1, f2⟩, ff⟩ := HAT.out w4 (HB3.out.trans (hb4.mono HB3.out.size)); clear hb4))
  all_goals go_wp2_with fail
  all_goals exact bodyPost_ret (v := .tuple #[.slice a4 l4 c4, ints3 z4 0 0]) (by simp [results, Tryz.results17, go_sem, cell_set, f0, f1, f2]) rfl (HQ.out _ _ _)

set_option maxRecDepth 100000 in
set_option maxHeartbeats 3200000 in
/-- TSO of a program that passed Check. -/
theorem tso_yes (w : World) (ca : Option Addr) (n cc : Nat) (wa : Option Addr) (wc lk rg : Nat) (words : List Int) (A : Nat → Option Addr) (L C : Nat → Nat) (X : Nat → Nat → Nat → Int) (HR : Hid (chk n L X words.length lk rg = (0, 0, 0))) (hp : PIn w ca n A L C X) (hc : COk n L X words.length lk rg) (hn0 : 0 < n) (hw : SIs w wa words) (hnil : wa = none → words = [] ∧ wc = 0) (hfit : ∀ t i, t < n → i < L t → I64n (X t i 2)) (hwf : ∀ x, x ∈ words → I64n x) (htab : TabB w.heap.size w) :
    Calls Tryz.prog 13 #[prgV ca n cc wa words.length wc lk rg] w (OutQ w L X 1 (beginX n words lk rg)) := by
  have HCHK : Hid (∀ W, Below w.heap.size w W → Calls Tryz.prog 15 #[prgV ca n cc wa words.length wc lk rg] W fun e w' => e = .returned (ints3 0 0 0) ∧ Below W.heap.size W w') := fun W hb => check_any ca n cc wa words.length wc lk rg A L C X 0 0 0 HR W (hp.below hb)
  have HNEW : Hid (∀ W, Below w.heap.size w W → Calls Tryz.prog 32 #[prgV ca n cc wa words.length wc lk rg] W fun e w' => ∃ bb mb v, e = .returned (.pointer (some ⟨bb, 0, none⟩)) ∧ MemQ ⟨A, L, C, bufK, bb, n⟩ W w' mb v words lk) := fun W hb => (newBuffered_any W ca n cc wa wc lk rg words (hw.below hb) hnil hc.m64 hc.lk4 hc.n4).mono fun e w' ⟨bb, mb, v, h1, h2⟩ => ⟨bb, mb, v, h1, h2 A L C⟩
  have HOUT : Hid (∀ W w' bb mb v, Below w.heap.size w W → MemQ ⟨A, L, C, bufK, bb, n⟩ W w' mb v words lk → Calls Tryz.prog 31 #[prgV ca n cc wa words.length wc lk rg, .iface 64 (.pointer (some ⟨bb, 0, none⟩))] w' (OutQ w' L X 1 (beginX n words lk rg))) := fun W w' bb mb v hb hm => by
    have hb2 : Below w.heap.size w w' := hb.trans (hm.below.mono hb.size)
    exact outcomes_any W w' ⟨A, L, C, bufK, bb, n⟩ _ _ ca n cc wa wc lk rg mb v words X buf_kind rfl hn0 hc hfit hwf (hp.below hb2) (htab.up hb2) hm
  obtain ⟨s0, hs0⟩ : ∃ s0, beginX n words lk rg = s0 := ⟨_, rfl⟩
  rw [hs0] at HOUT ⊢
  obtain ⟨wl, hwl⟩ : ∃ k, words.length = k := ⟨_, rfl⟩
  rw [hwl] at HCHK HNEW HOUT ⊢
  clear HR hp hc hn0 hw hnil hfit hwf htab hs0 hwl
  obtain ⟨PB, hPB⟩ : ∃ o : Obj, o = .cells #[.slice ca n cc, .slice wa wl wc, .int .i64 (lk : Int), .int .i64 (rg : Int)] 25 := ⟨_, rfl⟩
  obtain ⟨W0, hW0⟩ : ∃ V, V = (w.alloc PB).alloc (.cells #[.int .i64 0, .int .i64 0, .int .i64 0] 29) := ⟨_, rfl⟩
  have hz0 : W0.heap.size = w.heap.size + 1 + 1 := by rw [hW0]; simp
  have hb0 : Below w.heap.size w W0 := by rw [hW0]; exact ((Below.refl _ _).alloc (Nat.le_refl _) _).alloc (by simp) _
  have hp0 : W0.heap[w.heap.size]? = some PB := by rw [hW0]; exact box_later (heap_alloc_new _ _) _
  have hf0 : W0.heap[w.heap.size + 1]? = some (.cells #[.int .i64 0, .int .i64 0, .int .i64 0] 29) := by
    have := heap_alloc_new (w.alloc PB) (.cells #[.int .i64 0, .int .i64 0, .int .i64 0] 29)
    rw [World.size_alloc] at this
    rw [hW0]; exact this
  have HW0 : Hid ((w.alloc (.cells #[.slice ca n cc, .slice wa wl wc, .int .i64 (lk : Int), .int .i64 (rg : Int)] 25)).alloc (.cells #[.int .i64 0, .int .i64 0, .int .i64 0] 29) = W0) := by rw [hW0, hPB]; exact rfl
  have HAT : Hid (∀ V, Below W0.heap.size W0 V → (V.cell? ⟨w.heap.size, 0, none⟩ = some (.slice ca n cc) ∧ V.cell? ⟨w.heap.size, 1, none⟩ = some (.slice wa wl wc) ∧ V.cell? ⟨w.heap.size, 2, none⟩ = some (.int .i64 (lk : Int)) ∧ V.cell? ⟨w.heap.size, 3, none⟩ = some (.int .i64 (rg : Int))) ∧ (V.cell? ⟨w.heap.size + 1, 0, none⟩ = some (.int .i64 0) ∧ V.cell? ⟨w.heap.size + 1, 1, none⟩ = some (.int .i64 0) ∧ V.cell? ⟨w.heap.size + 1, 2, none⟩ = some (.int .i64 0)) ∧ ∀ i, V.frozen? ⟨w.heap.size + 1, i, none⟩ = false) := fun V hb => by
    have e1 := (hb.block w.heap.size (by omega)).trans hp0
    have e2 := (hb.block (w.heap.size + 1) (by omega)).trans hf0
    rw [hPB] at e1
    exact ⟨⟨box_cell e1 rfl, box_cell e1 rfl, box_cell e1 rfl, box_cell e1 rfl⟩, ⟨box_cell e2 rfl, box_cell e2 rfl, box_cell e2 rfl⟩, fun i => box_free e2⟩
  have HFIN : Hid (∀ V w3 e w4 x y z, Below W0.heap.size W0 V → Below V.heap.size V w3 → OutQ w3 L X 1 s0 e w4 → OutQ w L X 1 s0 e (((w4.setCell ⟨w.heap.size + 1, 0, none⟩ x).setCell ⟨w.heap.size + 1, 1, none⟩ y).setCell ⟨w.heap.size + 1, 2, none⟩ z)) := fun V w3 e w4 x y z h1 h2 h3 => by
    have hb3 : Below W0.heap.size W0 w3 := h1.trans (h2.mono h1.size)
    have hsz := hb3.size
    have hb4 : Below w3.heap.size w3 w4 := h3.form.2
    have hbw : Below w.heap.size w w4 := hb0.trans ((hb3.trans (hb4.mono hsz)).mono hb0.size)
    refine h3.move (by omega) (fun j hj => ?_) (((hbw.setCell (by show w.heap.size ≤ w.heap.size + 1; omega) _).setCell (by show w.heap.size ≤ w.heap.size + 1; omega) _).setCell (by show w.heap.size ≤ w.heap.size + 1; omega) _)
    have hne : j ≠ w.heap.size + 1 := by omega
    rw [Below.heap_setCell _ _ _ _ hne, Below.heap_setCell _ _ _ _ hne, Below.heap_setCell _ _ _ _ hne]
  have HB0 := Hid.out (p := Hid _) hb0
  clear hPB hW0 hp0 hf0 hb0
  go_enter Tryz.func13, Tryz.ntmps13
  go_wp2_with fail
  rw [HW0.out]
  refine Calls.mono (HCHK.out _ HB0.out) ?_
  rintro e w1 ⟨rfl, hb1⟩
  obtain ⟨⟨p0, p1, p2, p3⟩, ⟨f0, f1, f2⟩, ff⟩ := HAT.out w1 hb1
  have HB1 := Hid.out (p := Hid _) hb1
  clear HCHK HW0 hb1
  go_wp2_with fail
  obtain ⟨V, hV⟩ : ∃ V, w1.alloc (.cells #[.int .i64 0, .int .i64 0, .int .i64 0] 29) = V := ⟨_, rfl⟩
  rw [hV]
  have hbV : Below W0.heap.size W0 V := by rw [← hV]; exact HB1.out.alloc HB1.out.size _
  have HBV := Hid.out (p := Hid _) hbV
  have HWV : Hid (Below w.heap.size w V) := HB0.out.trans (hbV.mono HB0.out.size)
  clear p0 p1 p2 p3 f0 f1 f2 ff HB1 hV
  obtain ⟨⟨p0, p1, p2, p3⟩, _, _⟩ := HAT.out V hbV
  clear hbV
  go_region_with (first | (go_at_call 32; refine Calls.mono (HNEW.out _ HWV.out.drew) ?_; rintro e w3 ⟨bb, mb, v, rfl, hm⟩; have hb3 : Below W0.heap.size W0 w3 := HBV.out.drew.trans (hm.below.mono HBV.out.size); obtain ⟨⟨q0, q1, q2, q3⟩, _, _⟩ := HAT.out w3 hb3; have HB3 := Hid.out (p := Hid _) hb3; have HM := Hid.out (p := Hid _) hm; clear hm hb3) | (go_at_call 31; refine Calls.mono (HOUT.out _ w3 bb mb v HWV.out.drew HM.out) ?_; intro e w4 h4; have hfin := fun x y z => HFIN.out _ _ e w4 x y z HBV.out.drew HM.out.below h4; have HQ := Hid.out (p := Hid _) hfin; clear hfin; obtain ⟨⟨a4, l4, c4, z4, rfl⟩, hb4⟩ := h4.form; clear h4; obtain ⟨_, ⟨f0, f1, f2⟩, ff⟩ := HAT.out w4 (HB3.out.trans (hb4.mono HB3.out.size)); clear hb4))
  all_goals go_wp2_with fail
  all_goals exact bodyPost_ret (v := .tuple #[.slice a4 l4 c4, ints3 z4 0 0]) (by simp [results, Tryz.results13, go_sem, cell_set, f0, f1, f2]) rfl (HQ.out _ _ _)

set_option maxRecDepth 100000 in
set_option maxHeartbeats 1600000 in
/-- SC of a program that Check does not let pass. -/
theorem sc_no (w : World) (ca : Option Addr) (n cc : Nat) (wa : Option Addr) (m wc : Nat) (lk rg : Int) (A : Nat → Option Addr) (L C : Nat → Nat) (X : Nat → Nat → Nat → Int) (x y z : Int) (HR : Hid (chk n L X m lk rg = (x, y, z))) (hx : (x != 0) = true) (hp : PIn w ca n A L C X) :
    Calls Tryz.prog 17 #[prgV ca n cc wa m wc lk rg] w fun e w' => e = .returned (.tuple #[nilV, ints3 x y z]) ∧ Below w.heap.size w w' := by
  have HCHK : Hid (∀ W, Below w.heap.size w W → Calls Tryz.prog 15 #[prgV ca n cc wa m wc lk rg] W fun e w' => e = .returned (ints3 x y z) ∧ Below W.heap.size W w') := fun W hb => check_any ca n cc wa m wc lk rg A L C X x y z HR W (hp.below hb)
  clear HR hp
  go_enter Tryz.func17, Tryz.ntmps17
  go_wp2_with fail
  refine Calls.mono (HCHK.out _ (((Below.refl _ _).alloc (Nat.le_refl _) _).alloc (by simp) _)) ?_
  rintro e w1 ⟨rfl, hb1⟩
  have hs1 := hb1.size
  simp only [World.size_alloc] at hs1
  have HB1 : Below w.heap.size w w1 := (((Below.refl _ _).alloc (Nat.le_refl _) _).alloc (by simp) _).trans (hb1.mono (by simp; omega))
  have hF : w1.heap[w.heap.size + 1]? = some (.cells #[.int .i64 0, .int .i64 0, .int .i64 0] 29) := by
    refine (hb1.block _ (by simp)).trans ?_
    have := heap_alloc_new (w.alloc (.cells #[.slice ca n cc, .slice wa m wc, .int .i64 lk, .int .i64 rg] 25)) (.cells #[.int .i64 0, .int .i64 0, .int .i64 0] 29)
    rwa [World.size_alloc] at this
  have u0 : ∀ o, (w1.alloc o).cell? ⟨w.heap.size + 1, 0, none⟩ = some (.int .i64 0) := fun o => box_cell (box_later hF o) rfl
  have u1 : ∀ o, (w1.alloc o).cell? ⟨w.heap.size + 1, 1, none⟩ = some (.int .i64 0) := fun o => box_cell (box_later hF o) rfl
  have u2 : ∀ o, (w1.alloc o).cell? ⟨w.heap.size + 1, 2, none⟩ = some (.int .i64 0) := fun o => box_cell (box_later hF o) rfl
  have uf : ∀ o i, (w1.alloc o).frozen? ⟨w.heap.size + 1, i, none⟩ = false := fun o i => box_free (box_later hF o)
  have n1 : w1.heap.size ≠ w.heap.size + 1 := by omega
  have n3 : w.heap.size + 1 ≠ w1.heap.size := by omega
  have hB : Below w.heap.size w (w1.alloc (.cells #[.int .i64 x, .int .i64 y, .int .i64 z] 29)) := HB1.alloc HB1.size _
  have HBB := Hid.out (p := Hid _) hB
  clear hb1 hF HCHK HB1 hB
  go_wp2_with fail
  go_region
  all_goals go_wp2
  all_goals refine bodyPost_ret (v := .tuple #[nilV, ints3 x y z]) (by simp [results, Tryz.results17, go_sem, cell_set, u0, u1, u2]) rfl ⟨rfl, ?_⟩
  all_goals exact ((HBB.out.drew.setCell (Nat.le_succ _) _).setCell (Nat.le_succ _) _).setCell (Nat.le_succ _) _
end

end Go.Proofs.YtefnmbnakphhfadGreatDoor
