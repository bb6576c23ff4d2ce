/-
  What is found out of each thread, and what the program makes of it.
  What is found out of all threads, in a list.
  Orders anew, by what is found out of each thread.
-/
import Derived.Test.YtkailbdjilkneaaDoorOptFl
import Derived.Test.YtkailbdjilkneaaDoorOptZ
import Derived.Test.YtkailbdjilkneaaDoorIntsS
import Derived.Test.YtkailbdjilkneaaDoorFRew
import Derived.Test.YtkailbdjilkneaaDoorNewC
namespace Go.Proofs.YtkailbdjilkneaaDoor
section
open Go.RowKit

theorem FlV.wide {w w2 W : World} {fb ga ac l cc rg : Nat} {ca : Option Addr} {MB : Nat → Nat} {ov : Value} {E : Nat → Nat → Vl} {O : List (Nat × Nat)} (h : FlV w2 W fb ga ac l cc rg ca MB ov E O) (hb : Below w.heap.size w w2) : FlV w W fb ga ac l cc rg ca MB ov E O :=
  ⟨hb.trans (h.low.mono hb.size), ⟨Nat.le_trans hb.size h.lo.1, Nat.le_trans hb.size h.lo.2.1, fun i hi => Nat.le_trans hb.size (h.lo.2.2 i hi)⟩, h.box, h.out, own_low h.op hb.size, h.mp, h.inj, h.olen⟩
set_option maxRecDepth 100000 in
set_option maxHeartbeats 1600000 in
theorem con1_any (w : World) (pb : Nat) (ca : Option Addr) (n cc m lk rg : Nat) (uv : Value) (lkv : Int) (A : Nat → Option Addr) (L C : Nat → Nat) (X : Nat → Nat → Nat → Int) (hp : PIn w ca n A L C X) (hc : COk n L X m lk rg) (hbx : w.heap[pb]? = some (.cells #[.slice ca n cc, uv, .int .i64 lkv, .int .i64 (rg : Int)] 25)) (t : Nat) (ht : t < n) :
    Calls Tryd.prog 28 #[.int .i64 (t : Int), .pointer (some ⟨pb, 0, none⟩)] w fun e w' => ∃ fb ga ac MB ov E, e = .returned (.func (.func 30) #[.pointer (some ⟨fb, 0, none⟩)] #[]) ∧ FlV w w' fb ga ac (L t) (C t) rg (A t) MB ov E [] ∧ LsV (X t) (L t) rg E := by
  have HF : Hid (∀ V, Below w.heap.size w V → Calls Tryd.prog 29 #[.slice (A t) (L t) (C t), .int .i64 (rg : Int)] V fun e w' => ∃ fb, e = .returned (.pointer (some ⟨fb, 0, none⟩)) ∧ Hid (∃ ga ac MB ov E, FlV w w' fb ga ac (L t) (C t) rg (A t) MB ov E [] ∧ LsV (X t) (L t) rg E)) := fun V hV => by
    have h0 := follow_any V (L t) (C t) rg m lk (A t) (X t) (hc.L4 t ht) hc.rg0 hc.rg2 (fun i hi => (hp.below hV).ord t i ht hi) (fun i hi => hc.ord t i ht hi)
    refine h0.mono ?_
    rintro e w' ⟨fb, ga, ac, MB, ov, E, h1, h2, h3⟩
    exact ⟨fb, h1, ga, ac, MB, ov, E, h2.wide hV, h3⟩
  obtain ⟨cb, co, rfl, hcell⟩ := hp.code t ht
  have p0 : w.cell? ⟨pb, 0, none⟩ = some (.slice (some ⟨cb, co, none⟩) n cc) := box_cell hbx rfl
  have p3 : w.cell? ⟨pb, 3, none⟩ = some (.int .i64 (rg : Int)) := box_cell hbx rfl
  have hti : (t : Int) < (n : Int) := by omega
  obtain ⟨At, hAt⟩ : ∃ a, A t = a := ⟨_, rfl⟩
  obtain ⟨lt, hlt⟩ : ∃ a, L t = a := ⟨_, rfl⟩
  obtain ⟨ct, hct⟩ : ∃ a, C t = a := ⟨_, rfl⟩
  rw [hAt, hlt, hct] at hcell HF ⊢
  clear hp hc hbx hAt hlt hct
  go_enter Tryd.func28, Tryd.ntmps28
  go_wp2_with fail
  go_region_with (go_at_call 29; refine Calls.mono (HF.out _ (Below.refl _ _).drew) ?_; rintro e w5 ⟨fb, rfl, H5⟩)
  all_goals go_wp2_with fail
  all_goals obtain ⟨ga, ac, MB, ov, E, h1, h2⟩ := H5.out
  all_goals refine bodyPost_ret (v := .func (.func 30) #[.pointer (some ⟨fb, 0, none⟩)] #[]) (by simp [results, Tryd.results28, go_sem]) rfl ⟨fb, ga, ac, MB, ov, E, rfl, h1, h2⟩
set_option maxRecDepth 100000 in
theorem chg1_any (w : World) (cb g n vc t i mid : Nat) (bnd : Array Value) (Q : Ending → World → Prop) (hfn : ∀ (xs : Array Value) (w : World), (callFunc mid xs).run Tryd.prog w = .ok (.enter mid xs) w) (hcb : w.cell? ⟨cb, 0, none⟩ = some (.slice (some ⟨g, 0, none⟩) n vc)) (ht : t < n) (hfv : w.cell? ⟨g, t, none⟩ = some (.func (.func mid) bnd #[])) (HB : Calls Tryd.prog mid (bnd.push (.int .i64 (i : Int))) w fun e w' => ∃ v, e = .returned v ∧ Q e w') :
    Calls Tryd.prog 58 #[.int .i64 (t : Int), .int .i64 (i : Int), .pointer (some ⟨cb, 0, none⟩)] w Q := by
  have HB' := Hid.out (p := Hid _) HB
  have hti : (t : Int) < (n : Int) := by omega
  clear HB
  go_enter Tryd.func58, Tryd.ntmps58
  go_wp2_with fail
  refine Calls.mono HB'.out ?_
  rintro e w' ⟨v, rfl, hq⟩
  have HQ := Hid.out (p := Hid _) hq
  clear hq
  go_wp2_with fail
  exact HQ.out
end

section
open Go.RowKit

/-- All that stands through: whatever is no row of functions, and no box of such a row. -/
structure KpZ (W U : World) : Prop where
  size : W.heap.size ≤ U.heap.size
  block : ∀ (b : Nat) (o : Obj), W.heap[b]? = some o → (∀ c fr, o ≠ Obj.cells c 57 fr) → (∀ c fr, o ≠ Obj.cells c 105 fr) → U.heap[b]? = some o
theorem KpZ.refl (W : World) : KpZ W W := ⟨Nat.le_refl _, fun _ _ h _ _ => h⟩
theorem KpZ.trans {W U V : World} (h1 : KpZ W U) (h2 : KpZ U V) : KpZ W V := ⟨Nat.le_trans h1.size h2.size, fun b o h g1 g2 => h2.block b o (h1.block b o h g1 g2) g1 g2⟩
theorem KpZ.low {W U : World} (h : Below W.heap.size W U) : KpZ W U := ⟨h.size, fun b _ hb _ _ => (h.block b (Array.getElem?_eq_some_iff.1 hb).1).trans hb⟩
theorem FlV.keepZ {w W U : World} {fb ga ac l cc rg : Nat} {ca : Option Addr} {MB : Nat → Nat} {ov : Value} {E : Nat → Nat → Vl} {O : List (Nat × Nat)} (h : FlV w W fb ga ac l cc rg ca MB ov E O) (hb : Below w.heap.size w U) (hk : KpZ W U) : FlV w U fb ga ac l cc rg ca MB ov E O := by
  have kc : ∀ (b : Nat) (c : Array Value) (ty : TypeId) (fr : Nat × Nat), W.heap[b]? = some (Obj.cells c ty fr) → ty ≠ 57 → ty ≠ 105 → U.heap[b]? = some (Obj.cells c ty fr) := fun b c ty fr h1 h2 h3 => hk.block b _ h1 (fun c' fr' e => h2 (by cases e; rfl)) (fun c' fr' e => h3 (by cases e; rfl))
  obtain ⟨c, g1, g2⟩ := h.out
  refine ⟨hb, h.lo, kc _ _ _ _ h.box (by decide) (by decide), ⟨c, kc _ _ _ _ g1 (by decide) (by decide), g2⟩, fam_keeps h.op fun g hg => ?_, fun i hi => ?_, h.inj, h.olen⟩
  · rcases h.op.2 with ⟨h0, _⟩ | ⟨g', cap', cur, hv, _, hh, _⟩
    · rw [h0] at hg; cases hg
    · have e2 : g' = g := by
        rw [hv] at hg
        simpa [Value.ownBlock] using hg
      subst e2
      rw [hh]
      exact kc _ _ _ _ hh (by decide) (by decide)
  · obtain ⟨n, h3, h4⟩ := h.mp i hi
    obtain ⟨es, cl, h5⟩ := h3.obj
    exact ⟨n, h3.keep (by rw [h5]; exact hk.block _ _ h5 (fun c fr e => by cases e) (fun c fr e => by cases e)), h4⟩
/-- What becomes of a thread's orders, told by a function (mid, bnd), in every world from V on. -/
def BecV (w V : World) (mid : Nat) (bnd : Array Value) (l : Nat) (bt : Nat → List I4) : Prop := ∀ U, Below w.heap.size w U → KpZ V U → ∀ i, i < l → Calls Tryd.prog mid (bnd.push (.int .i64 (i : Int))) U fun e u' => ∃ sa c, e = .returned (.slice sa (bt i).length c) ∧ SrcL u' sa (cellsT (bt i)) ∧ Below U.heap.size U u'
theorem BecV.keep {w V V' : World} {mid : Nat} {bnd : Array Value} {l : Nat} {bt : Nat → List I4} (h : BecV w V mid bnd l bt) (hk : KpZ V V') : BecV w V' mid bnd l bt := fun U hU hk2 => h U hU (hk.trans hk2)
theorem infoCh : (Tryd.prog.info? 57).map (fun i => (i.zero, i.size, i.bytes)) = some (some .nilFunc, 1, 8) := by kernel_rfl
/-- While it is found out of all threads: k of them. -/
structure ChI (w W : World) (cb : Nat) (mid : Nat) (L : Nat → Nat) (G : Nat → (Nat → List I4) → Prop) (k : Nat) (av : Value) : Prop where
  low : Below w.heap.size w W
  lo : w.heap.size ≤ cb
  box : W.heap[cb]? = some (.cells #[av] 105)
  row : ∃ fs : List Value, W.ownsRow w.heap.size 57 1 av k fs ∧ ∀ t, t < k → ∃ bnd bt, fs[t]? = some (.func (.func mid) bnd #[]) ∧ G t bt ∧ BecV w W mid bnd (L t) bt
theorem ChI.push {w W V : World} {cb mid : Nat} {L : Nat → Nat} {G : Nat → (Nat → List I4) → Prop} {k : Nat} {av : Value} (h : ChI w W cb mid L G k av) (hb : Below W.heap.size W V) (hk : k ≤ 1000) {bnd : Array Value} {bt : Nat → List I4} (hG : G k bt) (hB : BecV w V mid bnd (L k) bt) :
    ∃ g cap w3, (AppS #[105, 105] 105 #[av, .slice (some ⟨V.heap.size, 0, none⟩) 1 1]).run Tryd.prog (V.alloc (.cells #[.func (.func mid) bnd #[]] 57)) = .ok (.slice (some ⟨g, 0, none⟩) (k + 1) cap) w3 ∧ w3.heap[cb]? = W.heap[cb]? ∧
      ChI w (w3.setCell ⟨cb, 0, none⟩ (.slice (some ⟨g, 0, none⟩) (k + 1) cap)) cb mid L G (k + 1) (.slice (some ⟨g, 0, none⟩) (k + 1) cap) ∧ KpZ W (w3.setCell ⟨cb, 0, none⟩ (.slice (some ⟨g, 0, none⟩) (k + 1) cap)) := by
  obtain ⟨fs, h1, h2⟩ := h.row
  have hl : w.heap.size ≤ V.heap.size := Nat.le_trans h.low.size hb.size
  have h1V := owns_below2 h1 hb
  obtain ⟨g, cap, w3, r1, r2, r3, r4⟩ := app_row (T := 105) Tryd.underlying105 infoCh rfl (by omega) h1V (Below.refl _ V) hl 1 #[.func (.func mid) bnd #[]] rfl (by simp [Value.oneCell']) (by omega) (by omega) (by omega)
  have hbA : Below V.heap.size V (V.alloc (.cells #[.func (.func mid) bnd #[]] 57)) := (Below.refl _ _).alloc (Nat.le_refl _) _
  have hcV : V.heap[cb]? = some (.cells #[av] 105) := (hb.block _ (box_lt h.box)).trans h.box
  have hne : av.ownBlock ≠ some cb := fun e => own_type h1V hcV (by decide) e
  have hcb3 : w3.heap[cb]? = V.heap[cb]? := by
    rw [grown_block r3 (by simp; have := box_lt hcV; omega) hne]
    exact hbA.block cb (box_lt hcV)
  have hgc : g ≠ cb := fun e => by
    rcases r4 with r4 | r4
    · exact hne (by rw [r4, e])
    · have := box_lt hcV; omega
  have hKV : KpZ V (w3.setCell ⟨cb, 0, none⟩ (.slice (some ⟨g, 0, none⟩) (k + 1) cap)) := by
    refine ⟨?_, fun b o hb1 g1 g2 => ?_⟩
    · have e : (w3.setCell ⟨cb, 0, none⟩ (.slice (some ⟨g, 0, none⟩) (k + 1) cap)).heap.size = w3.heap.size := by simp [World.setCell]
      have h5 := r3.size
      rw [World.size_alloc] at h5
      omega
    · have hlt := (Array.getElem?_eq_some_iff.1 hb1).1
      have n1 : b ≠ cb := fun e => by
        rw [e, hcV] at hb1
        simp only [Option.some.injEq] at hb1
        exact g2 _ _ hb1.symm
      have n2 : av.ownBlock ≠ some b := fun e => by
        rcases h1V.2 with ⟨h6, _⟩ | ⟨g', cap', cur, hv, _, hh, _⟩
        · rw [h6] at e; cases e
        · have e2 : g' = b := by
            rw [hv] at e
            simpa [Value.ownBlock] using e
          rw [e2, hb1] at hh
          simp only [Option.some.injEq] at hh
          exact g1 _ _ hh
      rw [Below.heap_setCell _ _ _ _ (fun e => n1 (by simpa using e)), grown_block r3 (by simp; omega) n2]
      exact (hbA.block b hlt).trans hb1
  refine ⟨g, cap, w3, r1, hcb3.trans (hb.block _ (box_lt h.box)), ⟨?_, h.lo, heap_set_same (hcb3.trans hcV), fs ++ [.func (.func mid) bnd #[]], owns_far r2 ?_, fun t ht => ?_⟩, (KpZ.low hb).trans hKV⟩
  · exact (((h.low.trans (hb.mono h.low.size)).alloc hl _).grown r3 (by simp; omega) (fun q hq => (h1V.lt q hq).1)).setCell h.lo _
  · simp only [Value.ownBlock]
    exact fun e => hgc (by simpa using e)
  · have hfl : fs.length = k := by have := h1.1; omega
    by_cases e : t = k
    · subst e
      exact ⟨bnd, bt, by rw [List.getElem?_append_right (by omega), hfl]; simp, hG, hB.keep hKV⟩
    · obtain ⟨bnd', bt', q1, q2, q3⟩ := h2 t (by omega)
      exact ⟨bnd', bt', by rw [List.getElem?_append_left (by omega)]; exact q1, q2, q3.keep ((KpZ.low hb).trans hKV)⟩

theorem pick2 {n : Nat} {P : Nat → Array Value → (Nat → List I4) → Prop} (h : ∀ t, t < n → ∃ a b, P t a b) :
    ∃ (f : Nat → Array Value) (g : Nat → Nat → List I4), ∀ t, t < n → P t (f t) (g t) := by
  classical
  refine ⟨fun t => if ht : t < n then Classical.choose (h t ht) else #[], fun t => if ht : t < n then Classical.choose (Classical.choose_spec (h t ht)) else fun _ => [], fun t ht => ?_⟩
  simp only [dif_pos ht]
  exact Classical.choose_spec (Classical.choose_spec (h t ht))
end

section
open Go.RowKit

attribute [local go_sem ↓] appS_eq in
set_option maxRecDepth 100000 in
set_option maxHeartbeats 1600000 in
theorem changed_any (w : World) (fid mid : Nat) (caps : Array Value) (hfn : ∀ (xs : Array Value) (w : World), (callFunc fid xs).run Tryd.prog w = .ok (.enter fid xs) w) (hfm : ∀ (xs : Array Value) (w : World), (callFunc mid xs).run Tryd.prog w = .ok (.enter mid xs) w) (ca : Option Addr) (n cc : Nat) (wa : Option Addr) (words : List Int) (wc : Nat) (lk rg : Int) (A : Nat → Option Addr) (L C : Nat → Nat) (X : Nat → Nat → Nat → Int) (hw : SIs w wa words) (hnil : wa = none → words = [] ∧ wc = 0) (hm : words.length ≤ 64) (hp : PIn w ca n A L C X) (hn : n ≤ 4) (hL : ∀ t, t < n → L t ≤ 1000) (G : Nat → (Nat → List I4) → Prop)
    (hG : ∀ t bt, t < n → G t bt → ∀ i, i < L t → (bt i).length ≤ 4 ∧ ∀ x, x ∈ bt i → (1 ≤ x.1 ∧ x.1 ≤ 18) ∧ (x.1 = 14 → 0 ≤ x.2.1 ∧ x.2.1 ≤ L t) ∧ (x.1 = 15 → 0 ≤ x.2.2.1 ∧ x.2.2.1 ≤ L t))
    (HFO : Hid (∀ V, Below w.heap.size w V → ∀ t, t < n → Calls Tryd.prog fid (#[.int .i64 (t : Int)] ++ caps) V fun e w' => ∃ bnd bt, e = .returned (.func (.func mid) bnd #[]) ∧ Below V.heap.size V w' ∧ G t bt ∧ BecV w w' mid bnd (L t) bt)) :
    Calls Tryd.prog 27 #[prgV ca n cc wa words.length wc lk rg, .func (.func fid) #[] caps] w fun e w' => ∃ b : Nat → Nat → List I4, (∀ t, t < n → G t (b t)) ∧ NewQ w n words lk rg b L e w' := by
  obtain ⟨mw, hmw⟩ : ∃ k, words.length = k := ⟨_, rfl⟩
  have HPR := Hid.out (p := Hid _) (And.intro hp (And.intro hw (And.intro hnil (And.intro hL hm))))
  have HGG := Hid.out (p := Hid _) hG
  rw [hmw]
  obtain ⟨W3, hW3⟩ : ∃ V, ((w.alloc (.cells #[.slice ca n cc, .slice wa mw wc, .int .i64 lk, .int .i64 rg] 25)).alloc (.cells #[nilV, nilV, .int .i64 0, .int .i64 0] 25)).alloc (.cells #[nilV] 105) = V := ⟨_, rfl⟩
  have hb3 : Below w.heap.size w W3 := by rw [← hW3]; exact low3 _ _ _ _
  have hP3 : W3.heap[w.heap.size]? = some (.cells #[.slice ca n cc, .slice wa mw wc, .int .i64 lk, .int .i64 rg] 25) := by rw [← hW3]; exact box_later (box_later (heap_alloc_new _ _) _) _
  have hR3 : W3.heap[w.heap.size + 1]? = some (.cells #[nilV, nilV, .int .i64 0, .int .i64 0] 25) := by
    rw [← hW3]
    have := heap_alloc_new (w.alloc (.cells #[.slice ca n cc, .slice wa mw wc, .int .i64 lk, .int .i64 rg] 25)) (.cells #[nilV, nilV, .int .i64 0, .int .i64 0] 25)
    rw [World.size_alloc] at this
    exact box_later this _
  have hC3 : W3.heap[w.heap.size + 1 + 1]? = some (.cells #[nilV] 105) := by
    rw [← hW3]
    have := heap_alloc_new ((w.alloc (.cells #[.slice ca n cc, .slice wa mw wc, .int .i64 lk, .int .i64 rg] 25)).alloc (.cells #[nilV, nilV, .int .i64 0, .int .i64 0] 25)) (.cells #[nilV] 105)
    rwa [World.size_alloc, World.size_alloc] at this
  have HW3 := Hid.out (p := Hid _) (And.intro hW3 (And.intro hP3 hR3))
  have p0 : W3.cell? ⟨w.heap.size, 0, none⟩ = some (.slice ca n cc) := box_cell hP3 rfl
  have HI0 : Hid (ChI w W3 (w.heap.size + 1 + 1) mid L G 0 nilV ∧ KpZ W3 W3) := ⟨⟨hb3, by omega, hC3, [], World.ownsRow_nil _ _ _ _, fun t ht => absurd ht (Nat.not_lt_zero t)⟩, KpZ.refl _⟩
  have HMW := Hid.out (p := Hid _) hmw
  clear hp hw hnil hL hm hG hW3 hb3 hP3 hR3 hC3 hmw
  go_enter Tryd.func27, Tryd.ntmps27
  go_wp2_with fail
  rw [HW3.out.1]
  as_aux_lemma =>
    go_wp2_with fail
    go_loopw [10] (fun xv wr => ∃ (k : Nat) (va : Option Addr) (vc : Nat), k ≤ n ∧ xv = .int .i64 k ∧ Hid (ChI w wr (w.heap.size + 1 + 1) mid L G k (.slice va k vc) ∧ KpZ W3 wr)) (fun xv _ => n - (intOf xv).toNat)
    case atStart => exact ⟨0, none, 0, Nat.zero_le _, rfl, HI0.out⟩
    case round =>
      obtain ⟨k, va, vc, hk, rfl, HI⟩ := hrel
      clear HI0 p0
      by_cases hlt : k < n
      · as_aux_lemma =>
          have hkI : (k : Int) < (n : Int) := by omega
          have HF := Hid.out (p := Hid _) (HFO.out wr.drew HI.out.1.low.drew k hlt)
          have c0 : wr.cell? ⟨w.heap.size + 1 + 1, 0, none⟩ = some (.slice va k vc) := box_cell HI.out.1.box rfl
          have HC : Hid (Calls Tryd.prog fid (#[.int .i64 (k : Int)] ++ caps) wr.drew fun e w4 => ∃ bnd g cap w6, e = .returned (.func (.func mid) bnd #[]) ∧ w4.cell? ⟨w.heap.size + 1 + 1, 0, none⟩ = some (.slice va k vc) ∧ (AppS #[105, 105] 105 #[.slice va k vc, .slice (some ⟨w4.heap.size, 0, none⟩) 1 1]).run Tryd.prog (w4.alloc (.cells #[.func (.func mid) bnd #[]] 57)) = .ok (.slice (some ⟨g, 0, none⟩) (k + 1) cap) w6 ∧ w6.cell? ⟨w.heap.size + 1 + 1, 0, none⟩ = some (.slice va k vc) ∧ w6.frozen? ⟨w.heap.size + 1 + 1, 0, none⟩ = false ∧ Hid (ChI w (w6.setCell ⟨w.heap.size + 1 + 1, 0, none⟩ (.slice (some ⟨g, 0, none⟩) (k + 1) cap)) (w.heap.size + 1 + 1) mid L G (k + 1) (.slice (some ⟨g, 0, none⟩) (k + 1) cap) ∧ KpZ W3 (w6.setCell ⟨w.heap.size + 1 + 1, 0, none⟩ (.slice (some ⟨g, 0, none⟩) (k + 1) cap)))) := by
            refine Calls.mono HF.out ?_
            rintro e w4 ⟨bnd, bt, h1, h2, h3, h4⟩
            have hb4 : Below wr.heap.size wr w4 := (Below.refl _ _).drew.trans h2
            obtain ⟨g, cap, w6, r1, r2, r3, r4⟩ := HI.out.1.push hb4 (by omega) h3 h4
            have hbx := r2.trans HI.out.1.box
            exact ⟨bnd, g, cap, w6, h1, box_cell ((hb4.block _ (box_lt HI.out.1.box)).trans HI.out.1.box) rfl, r1, box_cell hbx rfl, box_free hbx, r3, HI.out.2.trans r4⟩
          clear HF
          go_wp2_with fail
          go_region_with (refine Calls.mono HC.out ?_; rintro e w4 ⟨bnd, g, cap, w6, rfl, q0, r6, q6, f6, HN⟩; have q0u := cell_up q0)
          all_goals go_wp2_with fail
          all_goals go_roundw
          all_goals first | exact ⟨k + 1, _, _, by omega, by go_num, HN.out⟩ | (simp [intOf]; omega)
      · obtain rfl : k = n := by omega
        as_aux_lemma =>
          have hkI : ¬ (k : Int) < (k : Int) := by omega
          have c0 : wr.cell? ⟨w.heap.size + 1 + 1, 0, none⟩ = some (.slice va k vc) := box_cell HI.out.1.box rfl
          obtain ⟨fs, ho, hf⟩ := HI.out.1.row
          obtain ⟨f, g, hpk⟩ := pick2 hf
          obtain ⟨hp, hw, hnil, hL, hm⟩ := HPR.out
          have hbr := HI.out.1.low
          have hPr : wr.heap[w.heap.size]? = some (.cells #[.slice ca k cc, .slice wa mw wc, .int .i64 lk, .int .i64 rg] 25) := HI.out.2.block _ _ HW3.out.2.1 (fun c fr e => by simp at e) (fun c fr e => by simp at e)
          have hRr : wr.heap[w.heap.size + 1]? = some (.cells #[nilV, nilV, .int .i64 0, .int .i64 0] 25) := HI.out.2.block _ _ HW3.out.2.2 (fun c fr e => by simp at e) (fun c fr e => by simp at e)
          have HGF : Hid (∀ t, t < k → G t (g t)) := fun t ht => (hpk t ht).2.1
          have HRW : Hid (Calls Tryd.prog 50 #[.agg #[.slice ca k cc, .slice wa mw wc, .int .i64 lk, .int .i64 rg], .func (.func 58) #[] #[.pointer (some ⟨w.heap.size + 1 + 1, 0, none⟩)]] wr fun e w' => ∃ (va : Option Addr) (vc : Nat) (ua : Option Addr) (uc : Nat), e = .returned (.agg #[.slice va k vc, .slice ua mw uc, .int .i64 lk, .int .i64 rg]) ∧ Hid (NewQ wr k words lk rg g L (.returned (.agg #[.slice va k vc, .slice ua mw uc, .int .i64 lk, .int .i64 rg])) w') ∧ Below wr.heap.size wr w') := by
            have h := rewrite_any wr ca k cc wa words wc lk rg 58 #[.pointer (some ⟨w.heap.size + 1 + 1, 0, none⟩)] A L C X g (hw.below hbr) hnil hm (hp.below hbr) (by omega) hL (fun t i ht hi => (HGG.out t (g t) ht (HGF.out t ht) i hi).1) (fun t i x ht hi hx => (HGG.out t (g t) ht (HGF.out t ht) i hi).2 x hx) (fun xs w => by kernel_rfl) (fun U t i hU ht hi => by
              obtain ⟨h1, h2, h3⟩ := hpk t ht
              obtain ⟨gb, gc, e1, e2, _, _⟩ := fam_block ho (by omega)
              simp only [Value.slice.injEq] at e1
              obtain ⟨rfl, _, rfl⟩ := e1
              have hc := fam_cell ho e2 h1
              refine chg1_any U (w.heap.size + 1 + 1) gb k _ t i mid (f t) _ hfm ((hU.cell (lt_of_cell c0)).trans c0) ht ((hU.cell (lt_of_cell hc)).trans hc) ?_
              refine Calls.mono (h3 U (hbr.trans (hU.mono hbr.size)) (KpZ.low hU) i hi) ?_
              rintro e w' ⟨sa, c, rfl, q1, q2⟩
              exact ⟨_, rfl, sa, c, rfl, q1, q2⟩)
            rw [HMW.out] at h
            refine Calls.mono h ?_
            rintro e w' ⟨cv, uv, tv, rfl, h1, h2, h3, h4⟩
            obtain ⟨va, vc, rfl⟩ := fam_form h1
            obtain ⟨ua, uc, rfl⟩ := fam_form h3
            exact ⟨va, vc, ua, uc, rfl, ⟨va, vc, ua, uc, tv, by rw [HMW.out], h1, h2, by rw [HMW.out]; exact h3, h4⟩, h4⟩
          have HBR := Hid.out (p := Hid _) hbr
          have HRr := Hid.out (p := Hid _) hRr
          have p0 : wr.cell? ⟨w.heap.size, 0, none⟩ = some (.slice ca k cc) := box_cell hPr rfl
          have p1 : wr.cell? ⟨w.heap.size, 1, none⟩ = some (.slice wa mw wc) := box_cell hPr rfl
          have p2 : wr.cell? ⟨w.heap.size, 2, none⟩ = some (.int .i64 lk) := box_cell hPr rfl
          have p3 : wr.cell? ⟨w.heap.size, 3, none⟩ = some (.int .i64 rg) := box_cell hPr rfl
          clear ho hf hpk hp hw hnil hL hm hbr hPr hRr HI HFO HPR HW3
          go_wp2_with fail
          refine Calls.mono HRW.out ?_
          rintro e w1 ⟨va', vc', ua', uc', rfl, HQ, hb1⟩
          have r1 : w1.heap[w.heap.size + 1]? = some (.cells #[nilV, nilV, .int .i64 0, .int .i64 0] 25) := (hb1.block _ (box_lt HRr.out)).trans HRr.out
          have t0 : w1.cell? ⟨w.heap.size + 1, 0, none⟩ = some nilV := box_cell r1 rfl
          have t1 : w1.cell? ⟨w.heap.size + 1, 1, none⟩ = some nilV := box_cell r1 rfl
          have t2 : w1.cell? ⟨w.heap.size + 1, 2, none⟩ = some (.int .i64 0) := box_cell r1 rfl
          have t3 : w1.cell? ⟨w.heap.size + 1, 3, none⟩ = some (.int .i64 0) := box_cell r1 rfl
          have tf : ∀ i, w1.frozen? ⟨w.heap.size + 1, i, none⟩ = false := fun i => box_free r1
          have HB1 := Hid.out (p := Hid _) hb1
          clear hb1 HRW
          go_wp2_with fail
          have hBn : Below w.heap.size w ((((w1.setCell ⟨w.heap.size + 1, 0, none⟩ (.slice va' k vc')).setCell ⟨w.heap.size + 1, 1, none⟩ (.slice ua' mw uc')).setCell ⟨w.heap.size + 1, 2, none⟩ (.int .i64 lk)).setCell ⟨w.heap.size + 1, 3, none⟩ (.int .i64 rg)) :=
            ((((HBR.out.trans (HB1.out.mono HBR.out.size)).setCell (by simp) _).setCell (by simp) _).setCell (by simp) _).setCell (by simp) _
          have hlt3 : w.heap.size + 1 < wr.heap.size := box_lt HRr.out
          refine bodyPost_ret (v := .agg #[.slice va' k vc', .slice ua' mw uc', .int .i64 lk, .int .i64 rg]) (by simp [results, Tryd.results27, go_sem, t0, t1, t2, t3]) rfl ⟨g, HGF.out, ?_⟩
          refine HQ.out.far (fun b hg1 hg2 => ?_) HBR.out.size hBn
          have hb : b ≠ w.heap.size + 1 := by omega
          rw [Below.heap_setCell _ _ _ _ hb, Below.heap_setCell _ _ _ _ hb, Below.heap_setCell _ _ _ _ hb, Below.heap_setCell _ _ _ _ hb]
end

end Go.Proofs.YtkailbdjilkneaaDoor
