/-
  What is found out of each thread, and what the program makes of it.
  What is found out of all threads, in a list.
  An order that nobody needs becomes none, by the program.
  What is found out of a thread for Dead: its orders, and what is live.
  Which orders of a thread nobody needs, by what is told of its registers.
-/
import Derived.Test.YtkailbdjilkneaaDoorOptFl
import Derived.Test.YtkailbdjilkneaaDoorZBeg
import Derived.Test.YtkailbdjilkneaaDoorRead
import Derived.Test.YtkailbdjilkneaaDoorFRew
import Derived.Test.YtkailbdjilkneaaDoorOptN
import Derived.Test.YtkailbdjilkneaaDoorOptS
import Derived.Test.YtkailbdjilkneaaDoorLivL
import Derived.Test.YtkailbdjilkneaaDoorLivK
namespace Go.Proofs.YtkailbdjilkneaaDoor
section
open Go.RowKit

theorem FlV.wide {w w2 W : World} {fb ga ac l cc rg : Nat} {ca : Option Addr} {MB : Nat → Nat} {ov : Value} {E : Nat → Nat → Vl} {O : List (Nat × Nat)} (h : FlV w2 W fb ga ac l cc rg ca MB ov E O) (hb : Below w.heap.size w w2) : FlV w W fb ga ac l cc rg ca MB ov E O :=
  ⟨hb.trans (h.low.mono hb.size), ⟨Nat.le_trans hb.size h.lo.1, Nat.le_trans hb.size h.lo.2.1, fun i hi => Nat.le_trans hb.size (h.lo.2.2 i hi)⟩, h.box, h.out, own_low h.op hb.size, h.mp, h.inj, h.olen⟩
set_option maxRecDepth 100000 in
set_option maxHeartbeats 1600000 in
theorem con1_any (w : World) (pb : Nat) (ca : Option Addr) (n cc m lk rg : Nat) (uv : Value) (lkv : Int) (A : Nat → Option Addr) (L C : Nat → Nat) (X : Nat → Nat → Nat → Int) (hp : PIn w ca n A L C X) (hc : COk n L X m lk rg) (hbx : w.heap[pb]? = some (.cells #[.slice ca n cc, uv, .int .i64 lkv, .int .i64 (rg : Int)] 25)) (t : Nat) (ht : t < n) :
    Calls Tryd.prog 28 #[.int .i64 (t : Int), .pointer (some ⟨pb, 0, none⟩)] w fun e w' => ∃ fb ga ac MB ov E, e = .returned (.func (.func 30) #[.pointer (some ⟨fb, 0, none⟩)] #[]) ∧ FlV w w' fb ga ac (L t) (C t) rg (A t) MB ov E [] ∧ LsV (X t) (L t) rg E := by
  have HF : Hid (∀ V, Below w.heap.size w V → Calls Tryd.prog 29 #[.slice (A t) (L t) (C t), .int .i64 (rg : Int)] V fun e w' => ∃ fb, e = .returned (.pointer (some ⟨fb, 0, none⟩)) ∧ Hid (∃ ga ac MB ov E, FlV w w' fb ga ac (L t) (C t) rg (A t) MB ov E [] ∧ LsV (X t) (L t) rg E)) := fun V hV => by
    have h0 := follow_any V (L t) (C t) rg m lk (A t) (X t) (hc.L4 t ht) hc.rg0 hc.rg2 (fun i hi => (hp.below hV).ord t i ht hi) (fun i hi => hc.ord t i ht hi)
    refine h0.mono ?_
    rintro e w' ⟨fb, ga, ac, MB, ov, E, h1, h2, h3⟩
    exact ⟨fb, h1, ga, ac, MB, ov, E, h2.wide hV, h3⟩
  obtain ⟨cb, co, rfl, hcell⟩ := hp.code t ht
  have p0 : w.cell? ⟨pb, 0, none⟩ = some (.slice (some ⟨cb, co, none⟩) n cc) := box_cell hbx rfl
  have p3 : w.cell? ⟨pb, 3, none⟩ = some (.int .i64 (rg : Int)) := box_cell hbx rfl
  have hti : (t : Int) < (n : Int) := by omega
  obtain ⟨At, hAt⟩ : ∃ a, A t = a := ⟨_, rfl⟩
  obtain ⟨lt, hlt⟩ : ∃ a, L t = a := ⟨_, rfl⟩
  obtain ⟨ct, hct⟩ : ∃ a, C t = a := ⟨_, rfl⟩
  rw [hAt, hlt, hct] at hcell HF ⊢
  clear hp hc hbx hAt hlt hct
  go_enter Tryd.func28, Tryd.ntmps28
  go_wp2_with fail
  go_region_with (go_at_call 29; refine Calls.mono (HF.out _ (Below.refl _ _).drew) ?_; rintro e w5 ⟨fb, rfl, H5⟩)
  all_goals go_wp2_with fail
  all_goals obtain ⟨ga, ac, MB, ov, E, h1, h2⟩ := H5.out
  all_goals refine bodyPost_ret (v := .func (.func 30) #[.pointer (some ⟨fb, 0, none⟩)] #[]) (by simp [results, Tryd.results28, go_sem]) rfl ⟨fb, ga, ac, MB, ov, E, rfl, h1, h2⟩
set_option maxRecDepth 100000 in
theorem chg1_any (w : World) (cb g n vc t i mid : Nat) (bnd : Array Value) (Q : Ending → World → Prop) (hfn : ∀ (xs : Array Value) (w : World), (callFunc mid xs).run Tryd.prog w = .ok (.enter mid xs) w) (hcb : w.cell? ⟨cb, 0, none⟩ = some (.slice (some ⟨g, 0, none⟩) n vc)) (ht : t < n) (hfv : w.cell? ⟨g, t, none⟩ = some (.func (.func mid) bnd #[])) (HB : Calls Tryd.prog mid (bnd.push (.int .i64 (i : Int))) w fun e w' => ∃ v, e = .returned v ∧ Q e w') :
    Calls Tryd.prog 58 #[.int .i64 (t : Int), .int .i64 (i : Int), .pointer (some ⟨cb, 0, none⟩)] w Q := by
  have HB' := Hid.out (p := Hid _) HB
  have hti : (t : Int) < (n : Int) := by omega
  clear HB
  go_enter Tryd.func58, Tryd.ntmps58
  go_wp2_with fail
  refine Calls.mono HB'.out ?_
  rintro e w' ⟨v, rfl, hq⟩
  have HQ := Hid.out (p := Hid _) hq
  clear hq
  go_wp2_with fail
  exact HQ.out
end

section
open Go.RowKit

/-- All that stands through: whatever is no row of functions, and no box of such a row. -/
structure KpZ (W U : World) : Prop where
  size : W.heap.size ≤ U.heap.size
  block : ∀ (b : Nat) (o : Obj), W.heap[b]? = some o → (∀ c fr, o ≠ Obj.cells c 57 fr) → (∀ c fr, o ≠ Obj.cells c 105 fr) → U.heap[b]? = some o
theorem KpZ.refl (W : World) : KpZ W W := ⟨Nat.le_refl _, fun _ _ h _ _ => h⟩
theorem KpZ.trans {W U V : World} (h1 : KpZ W U) (h2 : KpZ U V) : KpZ W V := ⟨Nat.le_trans h1.size h2.size, fun b o h g1 g2 => h2.block b o (h1.block b o h g1 g2) g1 g2⟩
theorem KpZ.low {W U : World} (h : Below W.heap.size W U) : KpZ W U := ⟨h.size, fun b _ hb _ _ => (h.block b (Array.getElem?_eq_some_iff.1 hb).1).trans hb⟩
theorem FlV.keepZ {w W U : World} {fb ga ac l cc rg : Nat} {ca : Option Addr} {MB : Nat → Nat} {ov : Value} {E : Nat → Nat → Vl} {O : List (Nat × Nat)} (h : FlV w W fb ga ac l cc rg ca MB ov E O) (hb : Below w.heap.size w U) (hk : KpZ W U) : FlV w U fb ga ac l cc rg ca MB ov E O := by
  have kc : ∀ (b : Nat) (c : Array Value) (ty : TypeId) (fr : Nat × Nat), W.heap[b]? = some (Obj.cells c ty fr) → ty ≠ 57 → ty ≠ 105 → U.heap[b]? = some (Obj.cells c ty fr) := fun b c ty fr h1 h2 h3 => hk.block b _ h1 (fun c' fr' e => h2 (by cases e; rfl)) (fun c' fr' e => h3 (by cases e; rfl))
  obtain ⟨c, g1, g2⟩ := h.out
  refine ⟨hb, h.lo, kc _ _ _ _ h.box (by decide) (by decide), ⟨c, kc _ _ _ _ g1 (by decide) (by decide), g2⟩, fam_keeps h.op fun g hg => ?_, fun i hi => ?_, h.inj, h.olen⟩
  · rcases h.op.2 with ⟨h0, _⟩ | ⟨g', cap', cur, hv, _, hh, _⟩
    · rw [h0] at hg; cases hg
    · have e2 : g' = g := by
        rw [hv] at hg
        simpa [Value.ownBlock] using hg
      subst e2
      rw [hh]
      exact kc _ _ _ _ hh (by decide) (by decide)
  · obtain ⟨n, h3, h4⟩ := h.mp i hi
    obtain ⟨es, cl, h5⟩ := h3.obj
    exact ⟨n, h3.keep (by rw [h5]; exact hk.block _ _ h5 (fun c fr e => by cases e) (fun c fr e => by cases e)), h4⟩
/-- What becomes of a thread's orders, told by a function (mid, bnd), in every world from V on. -/
def BecV (w V : World) (mid : Nat) (bnd : Array Value) (l : Nat) (bt : Nat → List I4) : Prop := ∀ U, Below w.heap.size w U → KpZ V U → ∀ i, i < l → Calls Tryd.prog mid (bnd.push (.int .i64 (i : Int))) U fun e u' => ∃ sa c, e = .returned (.slice sa (bt i).length c) ∧ SrcL u' sa (cellsT (bt i)) ∧ Below U.heap.size U u'
theorem BecV.keep {w V V' : World} {mid : Nat} {bnd : Array Value} {l : Nat} {bt : Nat → List I4} (h : BecV w V mid bnd l bt) (hk : KpZ V V') : BecV w V' mid bnd l bt := fun U hU hk2 => h U hU (hk.trans hk2)
theorem infoCh : (Tryd.prog.info? 57).map (fun i => (i.zero, i.size, i.bytes)) = some (some .nilFunc, 1, 8) := by kernel_rfl
/-- While it is found out of all threads: k of them. -/
structure ChI (w W : World) (cb : Nat) (mid : Nat) (L : Nat → Nat) (G : Nat → (Nat → List I4) → Prop) (k : Nat) (av : Value) : Prop where
  low : Below w.heap.size w W
  lo : w.heap.size ≤ cb
  box : W.heap[cb]? = some (.cells #[av] 105)
  row : ∃ fs : List Value, W.ownsRow w.heap.size 57 1 av k fs ∧ ∀ t, t < k → ∃ bnd bt, fs[t]? = some (.func (.func mid) bnd #[]) ∧ G t bt ∧ BecV w W mid bnd (L t) bt
theorem ChI.push {w W V : World} {cb mid : Nat} {L : Nat → Nat} {G : Nat → (Nat → List I4) → Prop} {k : Nat} {av : Value} (h : ChI w W cb mid L G k av) (hb : Below W.heap.size W V) (hk : k ≤ 1000) {bnd : Array Value} {bt : Nat → List I4} (hG : G k bt) (hB : BecV w V mid bnd (L k) bt) :
    ∃ g cap w3, (AppS #[105, 105] 105 #[av, .slice (some ⟨V.heap.size, 0, none⟩) 1 1]).run Tryd.prog (V.alloc (.cells #[.func (.func mid) bnd #[]] 57)) = .ok (.slice (some ⟨g, 0, none⟩) (k + 1) cap) w3 ∧ w3.heap[cb]? = W.heap[cb]? ∧
      ChI w (w3.setCell ⟨cb, 0, none⟩ (.slice (some ⟨g, 0, none⟩) (k + 1) cap)) cb mid L G (k + 1) (.slice (some ⟨g, 0, none⟩) (k + 1) cap) ∧ KpZ W (w3.setCell ⟨cb, 0, none⟩ (.slice (some ⟨g, 0, none⟩) (k + 1) cap)) := by
  obtain ⟨fs, h1, h2⟩ := h.row
  have hl : w.heap.size ≤ V.heap.size := Nat.le_trans h.low.size hb.size
  have h1V := owns_below2 h1 hb
  obtain ⟨g, cap, w3, r1, r2, r3, r4⟩ := app_row (T := 105) Tryd.underlying105 infoCh rfl (by omega) h1V (Below.refl _ V) hl 1 #[.func (.func mid) bnd #[]] rfl (by simp [Value.oneCell']) (by omega) (by omega) (by omega)
  have hbA : Below V.heap.size V (V.alloc (.cells #[.func (.func mid) bnd #[]] 57)) := (Below.refl _ _).alloc (Nat.le_refl _) _
  have hcV : V.heap[cb]? = some (.cells #[av] 105) := (hb.block _ (box_lt h.box)).trans h.box
  have hne : av.ownBlock ≠ some cb := fun e => own_type h1V hcV (by decide) e
  have hcb3 : w3.heap[cb]? = V.heap[cb]? := by
    rw [grown_block r3 (by simp; have := box_lt hcV; omega) hne]
    exact hbA.block cb (box_lt hcV)
  have hgc : g ≠ cb := fun e => by
    rcases r4 with r4 | r4
    · exact hne (by rw [r4, e])
    · have := box_lt hcV; omega
  have hKV : KpZ V (w3.setCell ⟨cb, 0, none⟩ (.slice (some ⟨g, 0, none⟩) (k + 1) cap)) := by
    refine ⟨?_, fun b o hb1 g1 g2 => ?_⟩
    · have e : (w3.setCell ⟨cb, 0, none⟩ (.slice (some ⟨g, 0, none⟩) (k + 1) cap)).heap.size = w3.heap.size := by simp [World.setCell]
      have h5 := r3.size
      rw [World.size_alloc] at h5
      omega
    · have hlt := (Array.getElem?_eq_some_iff.1 hb1).1
      have n1 : b ≠ cb := fun e => by
        rw [e, hcV] at hb1
        simp only [Option.some.injEq] at hb1
        exact g2 _ _ hb1.symm
      have n2 : av.ownBlock ≠ some b := fun e => by
        rcases h1V.2 with ⟨h6, _⟩ | ⟨g', cap', cur, hv, _, hh, _⟩
        · rw [h6] at e; cases e
        · have e2 : g' = b := by
            rw [hv] at e
            simpa [Value.ownBlock] using e
          rw [e2, hb1] at hh
          simp only [Option.some.injEq] at hh
          exact g1 _ _ hh
      rw [Below.heap_setCell _ _ _ _ (fun e => n1 (by simpa using e)), grown_block r3 (by simp; omega) n2]
      exact (hbA.block b hlt).trans hb1
  refine ⟨g, cap, w3, r1, hcb3.trans (hb.block _ (box_lt h.box)), ⟨?_, h.lo, heap_set_same (hcb3.trans hcV), fs ++ [.func (.func mid) bnd #[]], owns_far r2 ?_, fun t ht => ?_⟩, (KpZ.low hb).trans hKV⟩
  · exact (((h.low.trans (hb.mono h.low.size)).alloc hl _).grown r3 (by simp; omega) (fun q hq => (h1V.lt q hq).1)).setCell h.lo _
  · simp only [Value.ownBlock]
    exact fun e => hgc (by simpa using e)
  · have hfl : fs.length = k := by have := h1.1; omega
    by_cases e : t = k
    · subst e
      exact ⟨bnd, bt, by rw [List.getElem?_append_right (by omega), hfl]; simp, hG, hB.keep hKV⟩
    · obtain ⟨bnd', bt', q1, q2, q3⟩ := h2 t (by omega)
      exact ⟨bnd', bt', by rw [List.getElem?_append_left (by omega)]; exact q1, q2, q3.keep ((KpZ.low hb).trans hKV)⟩

theorem pick2 {n : Nat} {P : Nat → Array Value → (Nat → List I4) → Prop} (h : ∀ t, t < n → ∃ a b, P t a b) :
    ∃ (f : Nat → Array Value) (g : Nat → Nat → List I4), ∀ t, t < n → P t (f t) (g t) := by
  classical
  refine ⟨fun t => if ht : t < n then Classical.choose (h t ht) else #[], fun t => if ht : t < n then Classical.choose (Classical.choose_spec (h t ht)) else fun _ => [], fun t ht => ?_⟩
  simp only [dif_pos ht]
  exact Classical.choose_spec (Classical.choose_spec (h t ht))
end

section
open Go.RowKit

set_option maxRecDepth 100000 in
set_option maxHeartbeats 1600000 in
theorem nbecome_any (W : World) (ca : Option Addr) (l cc : Nat) (hb ho hc : Nat) (ra : Option Addr) (rc : Nat) (row : List Int) (x0 x1 x2 x3 : Int) (i : Nat) (hl : l ≤ 1000) (hi : i < l) (hop : 1 ≤ x0 ∧ x0 ≤ 18) (hne : 1 ≤ x0 ∧ x0 ≤ 8 → x1 ≠ -1) (hord : OrdAt W ca i x0 x1 x2 x3) (hrow : W.cell? ⟨hb, ho + (i + 1), none⟩ = some (.slice ra row.length rc)) (hs : SIs W ra row) (hr : row.length ≤ 1000) :
    Calls Tryd.prog 33 #[.agg #[.slice ca l cc, .slice (some ⟨hb, ho, none⟩) (l + 1) hc], .int .i64 (i : Int)] W fun e w' => ∃ sa cp, e = .returned (.slice sa (bDrop (decide (1 ≤ x0 ∧ x0 ≤ 8) && !decide (x1 ∈ row)) (x0, x1, x2, x3)).length cp) ∧ SrcL w' sa (cellsT (bDrop (decide (1 ≤ x0 ∧ x0 ≤ 8) && !decide (x1 ∈ row)) (x0, x1, x2, x3))) ∧ Below W.heap.size W w' := by
  obtain ⟨cb, co, rfl, o0, o1, o2, o3⟩ := hord
  have HWR : Hid (∀ V, Calls Tryd.prog 67 #[.agg #[.int .i64 x0, .int .i64 x1, .int .i64 x2, .int .i64 x3]] V fun e w' => ((∃ x, e = .returned (.tuple #[.int .i64 x, .bool true]) ∧ Hid (x = wrL x0 x1 x2)) ∨ (e = .returned (.tuple #[.int .i64 0, .bool false]) ∧ Hid (wrL x0 x1 x2 = -1))) ∧ Below V.heap.size V w') := fun V => (writes_any x0 x1 x2 x3 hop V).mono fun e w' h => by
    refine ⟨?_, h.2⟩
    rcases h.1 with ⟨x, e1, e2, _⟩ | h
    · exact Or.inl ⟨x, e1, e2⟩
    · exact Or.inr h
  have HDN : Hid (∀ V, Calls Tryd.prog 68 #[.int .i64 x0] V fun e w' => e = .returned (.bool (decide (x0 = 1) || decide (x0 = 8) || (decide (2 ≤ x0) && decide (x0 ≤ 7)))) ∧ w' = V) := fun V => doesNoMore_any V x0
  have HCN : Hid (∀ V x, Below W.heap.size W V → Calls Tryd.prog 69 #[.slice ra row.length rc, .int .i64 x] V fun e w' => e = .returned (.bool (decide (x ∈ row))) ∧ Below V.heap.size V w') := fun V x hV => icontains_any V ra rc row x (hs.below hV) hr
  have hiI : (i : Int) < (l : Int) := by omega
  have hiJ : (i : Int) + 1 < (l : Int) + 1 := by omega
  have hil1 : i + 1 < l + 1 := by omega
  have o0' := fun o => cell_up o0 o
  have o1' := fun o => cell_up o1 o
  have o2' := fun o => cell_up o2 o
  have o3' := fun o => cell_up o3 o
  have hrow' := fun o => cell_up hrow o
  have hrow'' := fun o o' => cell_up (hrow' o) o'
  obtain ⟨W2, hW2⟩ : ∃ V, (W.alloc (.cells #[.slice (some ⟨cb, co, none⟩) l cc, .slice (some ⟨hb, ho, none⟩) (l + 1) hc] 65)).alloc (.cells #[.int .i64 x0, .int .i64 x1, .int .i64 x2, .int .i64 x3] 44) = V := ⟨_, rfl⟩
  have hb2 : Below W.heap.size W W2 := by rw [← hW2]; exact (low1 _ _).alloc (by simp) _
  have hn2 : W2.heap[W.heap.size]? = some (.cells #[.slice (some ⟨cb, co, none⟩) l cc, .slice (some ⟨hb, ho, none⟩) (l + 1) hc] 65) := by rw [← hW2]; exact box_later (heap_alloc_new _ _) _
  have hi2 : W2.heap[W.heap.size + 1]? = some (.cells #[.int .i64 x0, .int .i64 x1, .int .i64 x2, .int .i64 x3] 44) := by
    rw [← hW2]
    have := heap_alloc_new (W.alloc (.cells #[.slice (some ⟨cb, co, none⟩) l cc, .slice (some ⟨hb, ho, none⟩) (l + 1) hc] 65)) (.cells #[.int .i64 x0, .int .i64 x1, .int .i64 x2, .int .i64 x3] 44)
    rwa [World.size_alloc] at this
  have HAT : Hid (∀ V, Below W2.heap.size W2 V → Below W.heap.size W V ∧ (∀ o, (V.alloc o).cell? ⟨W.heap.size, 1, none⟩ = some (.slice (some ⟨hb, ho, none⟩) (l + 1) hc)) ∧ (∀ o, (V.alloc o).cell? ⟨hb, ho + (i + 1), none⟩ = some (.slice ra row.length rc)) ∧ (∀ o j, j < 4 → (V.alloc o).cell? ⟨W.heap.size + 1, j, none⟩ = some (.int .i64 ([x0, x1, x2, x3].getD j 0))) ∧ V.cell? ⟨W.heap.size, 1, none⟩ = some (.slice (some ⟨hb, ho, none⟩) (l + 1) hc) ∧ V.cell? ⟨hb, ho + (i + 1), none⟩ = some (.slice ra row.length rc) ∧ (∀ j, j < 4 → V.cell? ⟨W.heap.size + 1, j, none⟩ = some (.int .i64 ([x0, x1, x2, x3].getD j 0)))) := fun V hV => by
    have h1 := (hV.block _ (box_lt hn2)).trans hn2
    have h2 := (hV.block _ (box_lt hi2)).trans hi2
    have h3 := hb2.trans (hV.mono hb2.size)
    have h4 := (h3.cell (lt_of_cell hrow)).trans hrow
    have h5 : ∀ j, j < 4 → V.cell? ⟨W.heap.size + 1, j, none⟩ = some (.int .i64 ([x0, x1, x2, x3].getD j 0)) := fun j hj => by
      rcases (by omega : j = 0 ∨ j = 1 ∨ j = 2 ∨ j = 3) with rfl | rfl | rfl | rfl
      all_goals exact box_cell h2 rfl
    exact ⟨h3, fun o => cell_up (box_cell h1 rfl) o, fun o => cell_up h4 o, fun o j hj => cell_up (h5 j hj) o, box_cell h1 rfl, h4, h5⟩
  have HW2 := Hid.out (p := Hid _) hW2
  obtain ⟨LL, hLL⟩ : ∃ b, bDrop (decide (1 ≤ x0 ∧ x0 ≤ 8) && !decide (x1 ∈ row)) (x0, x1, x2, x3) = b := ⟨_, rfl⟩
  have HLL := Hid.out (p := Hid _) hLL
  rw [hLL]
  clear hLL
  clear hs hW2 hb2 hn2 hi2
  go_enter Tryd.func33, Tryd.ntmps33
  go_wp2_with fail
  rw [HW2.out]
  clear o0 o1 o2 o3 o0' o1' o2' o3' hrow hrow' hrow'' HW2
  refine Calls.mono (HWR.out _) ?_
  rintro e w1 ⟨hr1, hb1⟩
  obtain ⟨q0, q1, q2, q3, q4, q5, q6⟩ := HAT.out w1 hb1
  have i0 := q6 0 (by omega)
  have i1 := q6 1 (by omega)
  have i2 := q6 2 (by omega)
  have i3 := q6 3 (by omega)
  simp only [List.getD_cons_zero, List.getD_cons_succ] at i0 i1 i2 i3
  have HB1 := Hid.out (p := Hid _) (And.intro hb1 q0)
  clear hb1 q0 q1 q2 q3 q6
  rcases hr1 with ⟨x, rfl, hx⟩ | ⟨rfl, hx⟩
  · go_wp2_with fail
    refine Calls.mono (HDN.out _) ?_
    rintro e w2 ⟨rfl, rfl⟩
    obtain ⟨d, hd⟩ : ∃ d, (decide (x0 = 1) || decide (x0 = 8) || (decide (2 ≤ x0) && decide (x0 ≤ 7))) = d := ⟨_, rfl⟩
    have HD := Hid.out (p := Hid _) hd
    rw [hd]
    clear hd
    cases d with
    | true =>
      have hx1 : x = x1 ∧ (1 ≤ x0 ∧ x0 ≤ 8) := by
        have h1 := HD.out
        simp only [Bool.or_eq_true, Bool.and_eq_true, decide_eq_true_eq] at h1
        have h2 := hx.out
        unfold wrL at h2
        rw [if_pos (by omega)] at h2
        exact ⟨h2, by omega⟩
      obtain ⟨rfl, h18⟩ := hx1
      obtain ⟨mm, hmm⟩ : ∃ b, decide (x ∈ row) = b := ⟨_, rfl⟩
      have HMM := Hid.out (p := Hid _) hmm
      have HL2 : Hid (bDrop (!mm) (x0, x, x2, x3) = LL) := by
        have h := HLL.out
        rw [show (decide (1 ≤ x0 ∧ x0 ≤ 8)) = true from decide_eq_true h18, hmm, Bool.true_and] at h
        exact h
      clear hmm h18 hx HLL
      go_wp2_with fail
      refine Calls.mono (HCN.out _ _ HB1.out.2) ?_
      rintro e w3 ⟨rfl, hb3⟩
      rw [HMM.out]
      obtain ⟨q0, -, -, -, -, -, q6⟩ := HAT.out w3 (HB1.out.1.trans (hb3.mono HB1.out.1.size))
      have j0 := q6 0 (by omega)
      have j1 := q6 1 (by omega)
      have j2 := q6 2 (by omega)
      have j3 := q6 3 (by omega)
      simp only [List.getD_cons_zero, List.getD_cons_succ] at j0 j1 j2 j3
      have HB3 := Hid.out (p := Hid _) q0
      clear q0 q6 hb3 i0 i1 i2 i3 q4 q5
      cases mm with
      | true =>
        go_wp2_with fail
        go_ret
        rw [← HL2.out]
        exact ⟨_, _, rfl, srcL_one (x := (x0, x, x2, x3)), HB3.out.alloc HB3.out.size _⟩
      | false =>
        go_wp2_with fail
        go_ret
        rw [← HL2.out]
        exact ⟨_, _, rfl, srcL_nil _ _, HB3.out⟩
    | false =>
      have h18 : ¬ (1 ≤ x0 ∧ x0 ≤ 8) := by
        have h1 := HD.out
        simp only [Bool.or_eq_false_iff, Bool.and_eq_false_iff, decide_eq_false_iff_not] at h1
        omega
      have HL2 : Hid (bDrop false (x0, x1, x2, x3) = LL) := by
        have h := HLL.out
        rw [show (decide (1 ≤ x0 ∧ x0 ≤ 8)) = false from decide_eq_false h18, Bool.false_and] at h
        exact h
      clear h18 HLL
      go_wp2_with fail
      go_ret
      rw [← HL2.out]
      exact ⟨_, _, rfl, srcL_one (x := (x0, x1, x2, x3)), HB1.out.2.alloc HB1.out.2.size _⟩
  · have h18 : ¬ (1 ≤ x0 ∧ x0 ≤ 8 ∧ x1 ≠ -1) := by
      have h2 := hx.out
      unfold wrL at h2
      intro h
      rw [if_pos (by omega)] at h2
      exact h.2.2 h2
    have HL2 : Hid (bDrop false (x0, x1, x2, x3) = LL) := by
      have h := HLL.out
      rw [show (decide (1 ≤ x0 ∧ x0 ≤ 8)) = false from decide_eq_false (fun h => h18 ⟨h.1, h.2, hne h⟩), Bool.false_and] at h
      exact h
    clear h18 HLL
    go_wp2_with fail
    go_ret
    rw [← HL2.out]
    exact ⟨_, _, rfl, srcL_one (x := (x0, x1, x2, x3)), HB1.out.2.alloc HB1.out.2.size _⟩
end

section
open Go.RowKit

set_option maxRecDepth 100000 in
set_option maxHeartbeats 1600000 in
theorem dead1_any (w : World) (pb ab hb hc : Nat) (ra : Option Addr) (rn rc : Nat) (ca : Option Addr) (n cc : Nat) (uv : Value) (lkv rgv : Int) (A : Nat → Option Addr) (L C : Nat → Nat) (X : Nat → Nat → Nat → Int) (hp : PIn w ca n A L C X) (hbx : w.heap[pb]? = some (.cells #[.slice ca n cc, uv, .int .i64 lkv, .int .i64 rgv] 25)) (hab : w.cell? ⟨ab, 0, none⟩ = some (.slice (some ⟨hb, 0, none⟩) n hc)) (t : Nat) (ht : t < n) (hv : w.cell? ⟨hb, t, none⟩ = some (.slice ra rn rc)) :
    Calls Tryd.prog 32 #[.int .i64 (t : Int), .pointer (some ⟨pb, 0, none⟩), .pointer (some ⟨ab, 0, none⟩)] w fun e w' => e = .returned (.func (.func 33) #[.agg #[.slice (A t) (L t) (C t), .slice ra rn rc]] #[]) ∧ Below w.heap.size w w' := by
  obtain ⟨cb, co, rfl, hcell⟩ := hp.code t ht
  have p0 : w.cell? ⟨pb, 0, none⟩ = some (.slice (some ⟨cb, co, none⟩) n cc) := box_cell hbx rfl
  have hti : (t : Int) < (n : Int) := by omega
  obtain ⟨At, hAt⟩ : ∃ a, A t = a := ⟨_, rfl⟩
  obtain ⟨lt, hlt⟩ : ∃ a, L t = a := ⟨_, rfl⟩
  obtain ⟨ct, hct⟩ : ∃ a, C t = a := ⟨_, rfl⟩
  rw [hAt, hlt, hct] at hcell ⊢
  have p0' := fun o => cell_up p0 o
  have hcell' := fun o => cell_up hcell o
  have hab' := fun o => cell_up hab o
  have hv' := fun o => cell_up hv o
  have HB0 : Hid (Below w.heap.size w w) := Below.refl _ _
  clear hp hbx hAt hlt hct
  go_enter Tryd.func32, Tryd.ntmps32
  go_wp2_with fail
  go_region
  all_goals go_wp2_with fail
  all_goals refine bodyPost_ret (v := .func (.func 33) #[.agg #[.slice At lt ct, .slice ra rn rc]] #[]) (by simp [results, Tryd.results32, go_sem]) rfl ⟨rfl, ?_⟩
  all_goals first | exact HB0.out | exact HB0.out.drew
end

section
open Go.RowKit

/-- What the orders of a thread become: one that nobody needs becomes none. -/
def DeaG (X : Nat → Nat → Nat → Int) (L : Nat → Nat) (t : Nat) (bt : Nat → List I4) : Prop := ∀ i, i < L t → ∃ d : Bool, bt i = bDrop d (ordAt X t i) ∧ (d = true ↔ deadO (X t) (L t) i)
theorem ok_low {rg m lk sz : Nat} {op a b c : Int} (h : ordE rg m lk sz op a b c = 0) (ho : 1 ≤ op ∧ op ≤ 8) : 0 ≤ a ∧ a < rg := by
  rcases (by omega : op = 1 ∨ op = 2 ∨ op = 3 ∨ op = 4 ∨ op = 5 ∨ op = 6 ∨ op = 7 ∨ op = 8) with rfl | rfl | rfl | rfl | rfl | rfl | rfl | rfl
  · exact ok_const h
  · exact (ok_rr (by omega) h).1
  · exact (ok_rrr (by omega) h).1
  · exact (ok_rrr (by omega) h).1
  · exact (ok_rrr (by omega) h).1
  · exact (ok_rrr (by omega) h).1
  · exact (ok_rrr (by omega) h).1
  · exact (ok_load h).1
theorem dead_row {X : Nat → Nat → Int} {l i rg m lk : Nat} {S : Nat → Nat} (hrg : rg ≤ 200) (ho : ordE rg m lk l (X i 0) (X i 1) (X i 2) (X i 3) = 0) (hS : ∀ r, has S r = true ↔ Lv X l r (i + 1)) :
    (decide (1 ≤ X i 0 ∧ X i 0 ≤ 8) && !decide (X i 1 ∈ lstP (has S) 256)) = true ↔ deadO X l i := by
  unfold deadO
  simp only [Bool.and_eq_true, decide_eq_true_eq, Bool.not_eq_true', decide_eq_false_iff_not]
  refine ⟨fun ⟨h1, h2⟩ => ⟨h1, fun r hr hl => h2 ?_⟩, fun ⟨h1, h2⟩ => ⟨h1, fun hm => ?_⟩⟩
  · have := (ok_low ho h1).2
    rw [hr]
    exact lstP_in (by omega) ((hS r).2 hl)
  · obtain ⟨r, e, _, hr⟩ := lstP_mem hm
    exact h2 r e ((hS r).1 hr)

theorem deadF_any (w : World) (pb ab : Nat) (ca : Option Addr) (n cc m lk rg : Nat) (uv : Value) (lkv : Int) (A : Nat → Option Addr) (L C : Nat → Nat) (X : Nat → Nat → Nat → Int) (hp : PIn w ca n A L C X) (hc : COk n L X m lk rg) (hbx : w.heap[pb]? = some (.cells #[.slice ca n cc, uv, .int .i64 lkv, .int .i64 (rg : Int)] 25)) (B : Nat) (u : Value) (ysss : List (List (List Int))) (hO : O3 w B u ysss) (hlen : ysss.length = n) (hS : ∀ t, t < n → ∃ S, (∀ i r, has (S i) r = true ↔ Lv (X t) (L t) r i) ∧ ysss.getD t [] = tellS S (L t + 1)) (hab : w.cell? ⟨ab, 0, none⟩ = some u) :
    ∀ V, Below w.heap.size w V → ∀ t, t < n → Calls Tryd.prog 32 (#[.int .i64 (t : Int)] ++ #[.pointer (some ⟨pb, 0, none⟩), .pointer (some ⟨ab, 0, none⟩)]) V fun e w' => ∃ bnd bt, e = .returned (.func (.func 33) bnd #[]) ∧ Below V.heap.size V w' ∧ DeaG X L t bt ∧ BecV w w' 33 bnd (L t) bt := fun V hV t ht => by
  obtain ⟨S, hS1, hS2⟩ := hS t ht
  obtain ⟨ua, uc, rfl⟩ := hO.form
  obtain ⟨hb, x, rfl, -, hx1, hx2⟩ := hO.at (k := t) (by omega)
  rw [hlen] at hab
  obtain ⟨ra, rc, rfl⟩ := hx2.form
  rw [hS2, tellS_len] at hx1
  rw [hS2] at hx2
  rw [tellS_len] at hx2
  refine (dead1_any V pb ab hb uc ra (L t + 1) rc ca n cc uv lkv rg A L C X (hp.below hV) ((hV.block _ (box_lt hbx)).trans hbx) ((hV.cell (lt_of_cell hab)).trans hab) t ht ((hV.cell (lt_of_cell hx1)).trans hx1)).mono ?_
  rintro e w' ⟨rfl, hb'⟩
  refine ⟨_, fun i => bDrop (decide (1 ≤ X t i 0 ∧ X t i 0 ≤ 8) && !decide (X t i 1 ∈ lstP (has (S (i + 1))) 256)) (ordAt X t i), rfl, hb', fun i hi => ⟨_, rfl, dead_row hc.rg2 (hc.ord t i ht hi) (hS1 (i + 1))⟩, fun U hU _ i hi => ?_⟩
  have hxU := hx2.below hU
  obtain ⟨g, y, e, -, hy1, hy2⟩ := hxU.at (k := i + 1) (by rw [tellS_len]; omega)
  subst e
  rw [tellS_at (by omega)] at hy2
  obtain ⟨ya, yc, rfl⟩ := hy2.form
  have ho := hc.ord t i ht hi
  refine nbecome_any U (A t) (L t) (C t) g 0 rc ya yc (lstP (has (S (i + 1))) 256) (X t i 0) (X t i 1) (X t i 2) (X t i 3) i (hc.L4 t ht) hi (ok_op ho) (fun h h1 => ?_) ((hp.below hU).ord t i ht hi) ?_ hy2.sis ?_
  · have := (ok_low ho h).1
    omega
  · rw [Nat.zero_add]
    exact hy1
  · have := lstP_len (has (S (i + 1))) 256
    omega
end

end Go.Proofs.YtkailbdjilkneaaDoor
