/-
  What is found out of each thread, and what the program makes of it.
  What is found out of all threads, in a list.
-/
import Derived.Test.YtkailbdjilkneaaDoorOptFm
import Derived.Test.YtkailbdjilkneaaDoorOptZb
import Derived.Test.YtkailbdjilkneaaDoorRead
import Derived.Test.YtkailbdjilkneaaDoorFRew
namespace Go.Proofs.YtkailbdjilkneaaDoor
section
open Go.RowKit

theorem FlV.wide {w w2 W : World} {fb ga ac l cc rg : Nat} {ca : Option Addr} {MB : Nat → Nat} {ov : Value} {E : Nat → Nat → Vl} {O : List (Nat × Nat)} (h : FlV w2 W fb ga ac l cc rg ca MB ov E O) (hb : Below w.heap.size w w2) : FlV w W fb ga ac l cc rg ca MB ov E O :=
  ⟨hb.trans (h.low.mono hb.size), ⟨Nat.le_trans hb.size h.lo.1, Nat.le_trans hb.size h.lo.2.1, fun i hi => Nat.le_trans hb.size (h.lo.2.2 i hi)⟩, h.box, h.out, own_low h.op hb.size, h.mp, h.inj, h.olen⟩
set_option maxRecDepth 100000 in
set_option maxHeartbeats 1600000 in
theorem con1_any (w : World) (pb : Nat) (ca : Option Addr) (n cc m lk rg : Nat) (uv : Value) (lkv : Int) (A : Nat → Option Addr) (L C : Nat → Nat) (X : Nat → Nat → Nat → Int) (hp : PIn w ca n A L C X) (hc : COk n L X m lk rg) (hbx : w.heap[pb]? = some (.cells #[.slice ca n cc, uv, .int .i64 lkv, .int .i64 (rg : Int)] 25)) (t : Nat) (ht : t < n) :
    Calls Tryd.prog 28 #[.int .i64 (t : Int), .pointer (some ⟨pb, 0, none⟩)] w fun e w' => ∃ fb ga ac MB ov E, e = .returned (.func (.func 30) #[.pointer (some ⟨fb, 0, none⟩)] #[]) ∧ FlV w w' fb ga ac (L t) (C t) rg (A t) MB ov E [] ∧ LsV (X t) (L t) rg E := by
  have HF : Hid (∀ V, Below w.heap.size w V → Calls Tryd.prog 29 #[.slice (A t) (L t) (C t), .int .i64 (rg : Int)] V fun e w' => ∃ fb, e = .returned (.pointer (some ⟨fb, 0, none⟩)) ∧ Hid (∃ ga ac MB ov E, FlV w w' fb ga ac (L t) (C t) rg (A t) MB ov E [] ∧ LsV (X t) (L t) rg E)) := fun V hV => by
    have h0 := follow_any V (L t) (C t) rg m lk (A t) (X t) (hc.L4 t ht) hc.rg0 hc.rg2 (fun i hi => (hp.below hV).ord t i ht hi) (fun i hi => hc.ord t i ht hi)
    refine h0.mono ?_
    rintro e w' ⟨fb, ga, ac, MB, ov, E, h1, h2, h3⟩
    exact ⟨fb, h1, ga, ac, MB, ov, E, h2.wide hV, h3⟩
  obtain ⟨cb, co, rfl, hcell⟩ := hp.code t ht
  have p0 : w.cell? ⟨pb, 0, none⟩ = some (.slice (some ⟨cb, co, none⟩) n cc) := box_cell hbx rfl
  have p3 : w.cell? ⟨pb, 3, none⟩ = some (.int .i64 (rg : Int)) := box_cell hbx rfl
  have hti : (t : Int) < (n : Int) := by omega
  obtain ⟨At, hAt⟩ : ∃ a, A t = a := ⟨_, rfl⟩
  obtain ⟨lt, hlt⟩ : ∃ a, L t = a := ⟨_, rfl⟩
  obtain ⟨ct, hct⟩ : ∃ a, C t = a := ⟨_, rfl⟩
  rw [hAt, hlt, hct] at hcell HF ⊢
  clear hp hc hbx hAt hlt hct
  go_enter Tryd.func28, Tryd.ntmps28
  go_wp2_with fail
  go_region_with (go_at_call 29; refine Calls.mono (HF.out _ (Below.refl _ _).drew) ?_; rintro e w5 ⟨fb, rfl, H5⟩)
  all_goals go_wp2_with fail
  all_goals obtain ⟨ga, ac, MB, ov, E, h1, h2⟩ := H5.out
  all_goals refine bodyPost_ret (v := .func (.func 30) #[.pointer (some ⟨fb, 0, none⟩)] #[]) (by simp [results, Tryd.results28, go_sem]) rfl ⟨fb, ga, ac, MB, ov, E, rfl, h1, h2⟩
set_option maxRecDepth 100000 in
theorem chg1_any (w : World) (cb g n vc t i mid : Nat) (bnd : Array Value) (Q : Ending → World → Prop) (hfn : ∀ (xs : Array Value) (w : World), (callFunc mid xs).run Tryd.prog w = .ok (.enter mid xs) w) (hcb : w.cell? ⟨cb, 0, none⟩ = some (.slice (some ⟨g, 0, none⟩) n vc)) (ht : t < n) (hfv : w.cell? ⟨g, t, none⟩ = some (.func (.func mid) bnd #[])) (HB : Calls Tryd.prog mid (bnd.push (.int .i64 (i : Int))) w fun e w' => ∃ v, e = .returned v ∧ Q e w') :
    Calls Tryd.prog 58 #[.int .i64 (t : Int), .int .i64 (i : Int), .pointer (some ⟨cb, 0, none⟩)] w Q := by
  have HB' := Hid.out (p := Hid _) HB
  have hti : (t : Int) < (n : Int) := by omega
  clear HB
  go_enter Tryd.func58, Tryd.ntmps58
  go_wp2_with fail
  refine Calls.mono HB'.out ?_
  rintro e w' ⟨v, rfl, hq⟩
  have HQ := Hid.out (p := Hid _) hq
  clear hq
  go_wp2_with fail
  exact HQ.out
end

section
open Go.RowKit

/-- All that stands through: whatever is no row of functions, and no box of such a row. -/
structure KpZ (W U : World) : Prop where
  size : W.heap.size ≤ U.heap.size
  block : ∀ (b : Nat) (o : Obj), W.heap[b]? = some o → (∀ c fr, o ≠ Obj.cells c 57 fr) → (∀ c fr, o ≠ Obj.cells c 105 fr) → U.heap[b]? = some o
theorem KpZ.refl (W : World) : KpZ W W := ⟨Nat.le_refl _, fun _ _ h _ _ => h⟩
theorem KpZ.trans {W U V : World} (h1 : KpZ W U) (h2 : KpZ U V) : KpZ W V := ⟨Nat.le_trans h1.size h2.size, fun b o h g1 g2 => h2.block b o (h1.block b o h g1 g2) g1 g2⟩
theorem KpZ.low {W U : World} (h : Below W.heap.size W U) : KpZ W U := ⟨h.size, fun b _ hb _ _ => (h.block b (Array.getElem?_eq_some_iff.1 hb).1).trans hb⟩
theorem FlV.keepZ {w W U : World} {fb ga ac l cc rg : Nat} {ca : Option Addr} {MB : Nat → Nat} {ov : Value} {E : Nat → Nat → Vl} {O : List (Nat × Nat)} (h : FlV w W fb ga ac l cc rg ca MB ov E O) (hb : Below w.heap.size w U) (hk : KpZ W U) : FlV w U fb ga ac l cc rg ca MB ov E O := by
  have kc : ∀ (b : Nat) (c : Array Value) (ty : TypeId) (fr : Nat × Nat), W.heap[b]? = some (Obj.cells c ty fr) → ty ≠ 57 → ty ≠ 105 → U.heap[b]? = some (Obj.cells c ty fr) := fun b c ty fr h1 h2 h3 => hk.block b _ h1 (fun c' fr' e => h2 (by cases e; rfl)) (fun c' fr' e => h3 (by cases e; rfl))
  obtain ⟨c, g1, g2⟩ := h.out
  refine ⟨hb, h.lo, kc _ _ _ _ h.box (by decide) (by decide), ⟨c, kc _ _ _ _ g1 (by decide) (by decide), g2⟩, fam_keeps h.op fun g hg => ?_, fun i hi => ?_, h.inj, h.olen⟩
  · rcases h.op.2 with ⟨h0, _⟩ | ⟨g', cap', cur, hv, _, hh, _⟩
    · rw [h0] at hg; cases hg
    · have e2 : g' = g := by
        rw [hv] at hg
        simpa [Value.ownBlock] using hg
      subst e2
      rw [hh]
      exact kc _ _ _ _ hh (by decide) (by decide)
  · obtain ⟨n, h3, h4⟩ := h.mp i hi
    obtain ⟨es, cl, h5⟩ := h3.obj
    exact ⟨n, h3.keep (by rw [h5]; exact hk.block _ _ h5 (fun c fr e => by cases e) (fun c fr e => by cases e)), h4⟩
/-- What becomes of a thread's orders, told by a function (mid, bnd), in every world from V on. -/
def BecV (w V : World) (mid : Nat) (bnd : Array Value) (l : Nat) (bt : Nat → List I4) : Prop := ∀ U, Below w.heap.size w U → KpZ V U → ∀ i, i < l → Calls Tryd.prog mid (bnd.push (.int .i64 (i : Int))) U fun e u' => ∃ sa c, e = .returned (.slice sa (bt i).length c) ∧ SrcL u' sa (cellsT (bt i)) ∧ Below U.heap.size U u'
theorem BecV.keep {w V V' : World} {mid : Nat} {bnd : Array Value} {l : Nat} {bt : Nat → List I4} (h : BecV w V mid bnd l bt) (hk : KpZ V V') : BecV w V' mid bnd l bt := fun U hU hk2 => h U hU (hk.trans hk2)
theorem infoCh : (Tryd.prog.info? 57).map (fun i => (i.zero, i.size, i.bytes)) = some (some .nilFunc, 1, 8) := by kernel_rfl
/-- While it is found out of all threads: k of them. -/
structure ChI (w W : World) (cb : Nat) (mid : Nat) (L : Nat → Nat) (G : Nat → (Nat → List I4) → Prop) (k : Nat) (av : Value) : Prop where
  low : Below w.heap.size w W
  lo : w.heap.size ≤ cb
  box : W.heap[cb]? = some (.cells #[av] 105)
  row : ∃ fs : List Value, W.ownsRow w.heap.size 57 1 av k fs ∧ ∀ t, t < k → ∃ bnd bt, fs[t]? = some (.func (.func mid) bnd #[]) ∧ G t bt ∧ BecV w W mid bnd (L t) bt
theorem ChI.push {w W V : World} {cb mid : Nat} {L : Nat → Nat} {G : Nat → (Nat → List I4) → Prop} {k : Nat} {av : Value} (h : ChI w W cb mid L G k av) (hb : Below W.heap.size W V) (hk : k ≤ 1000) {bnd : Array Value} {bt : Nat → List I4} (hG : G k bt) (hB : BecV w V mid bnd (L k) bt) :
    ∃ g cap w3, (AppS #[105, 105] 105 #[av, .slice (some ⟨V.heap.size, 0, none⟩) 1 1]).run Tryd.prog (V.alloc (.cells #[.func (.func mid) bnd #[]] 57)) = .ok (.slice (some ⟨g, 0, none⟩) (k + 1) cap) w3 ∧ w3.heap[cb]? = W.heap[cb]? ∧
      ChI w (w3.setCell ⟨cb, 0, none⟩ (.slice (some ⟨g, 0, none⟩) (k + 1) cap)) cb mid L G (k + 1) (.slice (some ⟨g, 0, none⟩) (k + 1) cap) ∧ KpZ W (w3.setCell ⟨cb, 0, none⟩ (.slice (some ⟨g, 0, none⟩) (k + 1) cap)) := by
  obtain ⟨fs, h1, h2⟩ := h.row
  have hl : w.heap.size ≤ V.heap.size := Nat.le_trans h.low.size hb.size
  have h1V := owns_below2 h1 hb
  obtain ⟨g, cap, w3, r1, r2, r3, r4⟩ := app_row (T := 105) Tryd.underlying105 infoCh rfl (by omega) h1V (Below.refl _ V) hl 1 #[.func (.func mid) bnd #[]] rfl (by simp [Value.oneCell']) (by omega) (by omega) (by omega)
  have hbA : Below V.heap.size V (V.alloc (.cells #[.func (.func mid) bnd #[]] 57)) := (Below.refl _ _).alloc (Nat.le_refl _) _
  have hcV : V.heap[cb]? = some (.cells #[av] 105) := (hb.block _ (box_lt h.box)).trans h.box
  have hne : av.ownBlock ≠ some cb := fun e => own_type h1V hcV (by decide) e
  have hcb3 : w3.heap[cb]? = V.heap[cb]? := by
    rw [grown_block r3 (by simp; have := box_lt hcV; omega) hne]
    exact hbA.block cb (box_lt hcV)
  have hgc : g ≠ cb := fun e => by
    rcases r4 with r4 | r4
    · exact hne (by rw [r4, e])
    · have := box_lt hcV; omega
  have hKV : KpZ V (w3.setCell ⟨cb, 0, none⟩ (.slice (some ⟨g, 0, none⟩) (k + 1) cap)) := by
    refine ⟨?_, fun b o hb1 g1 g2 => ?_⟩
    · have e : (w3.setCell ⟨cb, 0, none⟩ (.slice (some ⟨g, 0, none⟩) (k + 1) cap)).heap.size = w3.heap.size := by simp [World.setCell]
      have h5 := r3.size
      rw [World.size_alloc] at h5
      omega
    · have hlt := (Array.getElem?_eq_some_iff.1 hb1).1
      have n1 : b ≠ cb := fun e => by
        rw [e, hcV] at hb1
        simp only [Option.some.injEq] at hb1
        exact g2 _ _ hb1.symm
      have n2 : av.ownBlock ≠ some b := fun e => by
        rcases h1V.2 with ⟨h6, _⟩ | ⟨g', cap', cur, hv, _, hh, _⟩
        · rw [h6] at e; cases e
        · have e2 : g' = b := by
            rw [hv] at e
            simpa [Value.ownBlock] using e
          rw [e2, hb1] at hh
          simp only [Option.some.injEq] at hh
          exact g1 _ _ hh
      rw [Below.heap_setCell _ _ _ _ (fun e => n1 (by simpa using e)), grown_block r3 (by simp; omega) n2]
      exact (hbA.block b hlt).trans hb1
  refine ⟨g, cap, w3, r1, hcb3.trans (hb.block _ (box_lt h.box)), ⟨?_, h.lo, heap_set_same (hcb3.trans hcV), fs ++ [.func (.func mid) bnd #[]], owns_far r2 ?_, fun t ht => ?_⟩, (KpZ.low hb).trans hKV⟩
  · exact (((h.low.trans (hb.mono h.low.size)).alloc hl _).grown r3 (by simp; omega) (fun q hq => (h1V.lt q hq).1)).setCell h.lo _
  · simp only [Value.ownBlock]
    exact fun e => hgc (by simpa using e)
  · have hfl : fs.length = k := by have := h1.1; omega
    by_cases e : t = k
    · subst e
      exact ⟨bnd, bt, by rw [List.getElem?_append_right (by omega), hfl]; simp, hG, hB.keep hKV⟩
    · obtain ⟨bnd', bt', q1, q2, q3⟩ := h2 t (by omega)
      exact ⟨bnd', bt', by rw [List.getElem?_append_left (by omega)]; exact q1, q2, q3.keep ((KpZ.low hb).trans hKV)⟩

theorem pick2 {n : Nat} {P : Nat → Array Value → (Nat → List I4) → Prop} (h : ∀ t, t < n → ∃ a b, P t a b) :
    ∃ (f : Nat → Array Value) (g : Nat → Nat → List I4), ∀ t, t < n → P t (f t) (g t) := by
  classical
  refine ⟨fun t => if ht : t < n then Classical.choose (h t ht) else #[], fun t => if ht : t < n then Classical.choose (Classical.choose_spec (h t ht)) else fun _ => [], fun t ht => ?_⟩
  simp only [dif_pos ht]
  exact Classical.choose_spec (Classical.choose_spec (h t ht))
end

end Go.Proofs.YtkailbdjilkneaaDoor
