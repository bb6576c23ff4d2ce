/-
  A value comes to a register ahead of an order, by the program.
-/
import Derived.Test.YtkailbdjilkneaaDoorOptN
import Derived.Deep.RegionHeld3
namespace Go.Proofs.YtkailbdjilkneaaDoor
open Go.RowKit

theorem meet_stP {a b : Vl} (h : a.meet b ≠ a) : (((a.meet b).st : Int) == (a.st : Int)) = false := by
  have : (a.meet b).st ≠ a.st := by
    cases a with
    | no =>
      cases b with
      | no => exact absurd rfl h
      | num n => exact fun e => by cases e
      | any => exact fun e => by cases e
    | num m =>
      cases b with
      | no => exact absurd rfl h
      | num n =>
        by_cases e : m = n
        · exact absurd (by simp [Vl.meet, e]) h
        · simp [Vl.meet, e, Vl.st]
      | any => exact fun e => by cases e
    | any => exact absurd (by cases b <;> rfl) h
  have h2 : ((a.meet b).st : Int) ≠ (a.st : Int) := by omega
  simpa using h2
theorem infoSp : (Tryd.prog.info? 113).map (fun i => (i.zero, i.size, i.bytes)) = some (some (.agg #[.int .i64 0, .int .i64 0]), 2, 16) := by kernel_rfl
section
variable {w W V : World} {fb ga ac l cc rg : Nat} {ca : Option Addr} {MB : Nat → Nat} {ov : Value} {E : Nat → Nat → Vl} {O : List (Nat × Nat)}
theorem FlV.opMap (h : FlV w W fb ga ac l cc rg ca MB ov E O) {j : Nat} (hj : j ≤ l) : ov.ownBlock ≠ some (MB j) := fun e => by
  obtain ⟨n2, h3, _⟩ := h.mp j hj
  obtain ⟨es, cl, h4⟩ := h3.obj
  rcases h.op.2 with ⟨h0, _⟩ | ⟨g', cap', cur, hv, _, hh, _⟩
  · rw [h0] at e; cases e
  · have e2 : g' = MB j := by
      rw [hv] at e
      simpa [Value.ownBlock] using e
    rw [e2, h4] at hh
    cases hh
/-- A value is put into a map. -/
theorem FlV.mput (h : FlV w W fb ga ac l cc rg ca MB ov E O) {i s : Nat} (hi : i ≤ l) (hs : s < rg) (hrg : rg ≤ 200) {v : Vl} (hc : (E i s).meet v ≠ E i s) :
    ∃ w1, (Instr.mapUpdate 110 (.map (some (MB i))) (.int .i64 (s : Int)) (vlV ((E i s).meet v))).run Tryd.prog W = .ok () w1 ∧ FlV w w1 fb ga ac l cc rg ca MB ov (updE E i s ((E i s).meet v)) O ∧ O.length + 1 + meas l rg (updE E i s ((E i s).meet v)) ≤ 1000000 ∧ (∀ (b : Nat) (c : Array Value) (ty : TypeId) (fr : Nat × Nat), W.heap[b]? = some (Obj.cells c ty fr) → w1.heap[b]? = W.heap[b]?) ∧ W.heap.size ≤ w1.heap.size := by
  obtain ⟨n, h1, h2⟩ := h.mp i hi
  have hvn : (E i s).meet v ≠ .no := fun e => by
    have h3 := Vl.le_meet_l (E i s) v
    rw [e] at h3
    exact hc (by rw [e, Vl.le_no h3])
  obtain ⟨w1, r1, hp, hg⟩ := h1.put hs (by omega) (by omega) hvn
  have hcells : ∀ (b : Nat) (c : Array Value) (ty : TypeId) (fr : Nat × Nat), W.heap[b]? = some (Obj.cells c ty fr) → w1.heap[b]? = W.heap[b]? := fun b c ty fr hb => hg.block b (Array.getElem?_eq_some_iff.1 hb).1 (fun e => h.mapNe hi hb (by simpa using e))
  have hmaps : ∀ j, j ≤ l → j ≠ i → w1.heap[MB j]? = W.heap[MB j]? := fun j hj hne => by
    obtain ⟨n2, h3, _⟩ := h.mp j hj
    exact hg.block _ h3.lt (fun e => hne (h.inj j i hj hi (by simpa using e)))
  have hlow1 : Below w.heap.size w w1 := ⟨by rw [hg.os]; exact h.low.os, by rw [hg.tape]; exact h.low.tape, by rw [hg.output]; exact h.low.output, Nat.le_trans h.low.size hg.size, fun k hk => (hg.block k (Nat.lt_of_lt_of_le hk h.low.size) (fun e => by have := h.lo.2.2 i hi; have e2 : k = MB i := (by simpa using e); omega)).trans (h.low.block k hk)⟩
  have hop1 : w1.ownsRow w.heap.size 113 2 ov O.length (spL O) := fam_keeps h.op fun g hg2 => by
    rcases h.op.2 with ⟨h0, _⟩ | ⟨g', cap', cur, hv, _, hh, _⟩
    · rw [h0] at hg2; cases hg2
    · have e2 : g' = g := by
        rw [hv] at hg2
        simpa [Value.ownBlock] using hg2
      subst e2
      exact hcells g' _ _ _ hh
  have hM := meas_lt (l := l) (rg := rg) (E := E) (F := updE E i s ((E i s).meet v)) (fun j r _ _ => updE_le (Vl.le_meet_l (E i s) v) j r) hi hs (by rw [updE_same]; exact hc)
  have hol := h.olen
  obtain ⟨c, g1, g2⟩ := h.out
  refine ⟨w1, r1, ⟨hlow1, h.lo, (hcells _ _ _ _ h.box).trans h.box, ⟨c, (hcells _ _ _ _ g1).trans g1, g2⟩, hop1, fun j hj => ?_, h.inj, by omega⟩, by omega, hcells, hg.size⟩
  by_cases e : j = i
  · subst e
    refine ⟨n + 1, ?_, by omega⟩
    have e6 : updE E j s ((E j s).meet v) j = fun q => if q = s then (E j s).meet v else E j q := by
      funext q
      unfold updE
      by_cases h7 : q = s
      · rw [if_pos ⟨rfl, h7⟩, if_pos h7]
      · rw [if_neg (fun e => h7 e.2), if_neg h7]
    rw [e6]
    exact hp
  · obtain ⟨n2, h3, h4⟩ := h.mp j hj
    refine ⟨n2, ?_, by omega⟩
    rw [updE_row e]
    exact h3.keep (hmaps j hj e)
/-- A register is laid behind the list. -/
theorem FlV.app (h : FlV w W fb ga ac l cc rg ca MB ov E O) (i s : Nat) (hl : O.length + 1 + meas l rg E ≤ 1000000) :
    ∃ g cap w3, (AppS #[107, 107] 107 #[ov, .slice (some ⟨W.heap.size, 0, none⟩) 1 1]).run Tryd.prog (W.alloc (.cells #[.int .i64 (i : Int), .int .i64 (s : Int)] 113)) = .ok (.slice (some ⟨g, 0, none⟩) (O.length + 1) cap) w3 ∧ w3.heap[fb]? = W.heap[fb]? ∧
      FlV w (w3.setCell ⟨fb, 3, none⟩ (.slice (some ⟨g, 0, none⟩) (O.length + 1) cap)) fb ga ac l cc rg ca MB (.slice (some ⟨g, 0, none⟩) (O.length + 1) cap) E (O ++ [(i, s)]) ∧
      KpF W (w3.setCell ⟨fb, 3, none⟩ (.slice (some ⟨g, 0, none⟩) (O.length + 1) cap)) fb ov (.slice (some ⟨g, 0, none⟩) (O.length + 1) cap) := by
  obtain ⟨g, cap, w3, a1, a2, a3, a4⟩ := app_row (T := 107) Tryd.underlying107 infoSp rfl (by omega) h.op (Below.refl _ W) h.low.size 1 #[.int .i64 (i : Int), .int .i64 (s : Int)] rfl (by simp [Value.oneCell']) (by omega) (by omega) (by omega)
  have hbA : Below W.heap.size W (W.alloc (.cells #[.int .i64 (i : Int), .int .i64 (s : Int)] 113)) := (Below.refl _ _).alloc (Nat.le_refl _) _
  have hblk : ∀ b, b < W.heap.size → ov.ownBlock ≠ some b → w3.heap[b]? = W.heap[b]? := fun b hb1 hne => by
    rw [grown_block a3 (by simp; omega) hne]
    exact hbA.block b hb1
  have hfb3 : w3.heap[fb]? = W.heap[fb]? := hblk fb (box_lt h.box) h.opNe
  have far : ∀ b (u : Value), b ≠ fb → (w3.setCell ⟨fb, 3, none⟩ u).heap[b]? = w3.heap[b]? := fun b u hb => Below.heap_setCell _ _ _ _ (fun e => hb (by simpa using e))
  have hsz : W.heap.size ≤ w3.heap.size := by have h1 := a3.size; rw [World.size_alloc] at h1; omega
  have hgf : g ≠ fb := fun e => by
    rcases a4 with a4 | a4
    · exact h.opNe (by rw [a4, e])
    · have := box_lt h.box; omega
  refine ⟨g, cap, w3, a1, hfb3, ⟨?_, h.lo, ?_, ?_, ?_, fun j hj => ?_, h.inj, ?_⟩, ⟨?_, fun b c ty fr hb hne ho => ?_, fun q hq => ?_⟩⟩
  · exact ((h.low.alloc h.low.size _).grown a3 (by simp; have := h.low.size; omega) (fun q hq => (h.op.lt q hq).1)).setCell h.lo.1 _
  · exact heap_set_same (hfb3.trans h.box)
  · obtain ⟨c, g1, g2⟩ := h.out
    refine ⟨c, ?_, g2⟩
    have hne : ga ≠ fb := fun e => by
      have h5 := h.box
      rw [← e, g1] at h5
      simp only [Option.some.injEq, Obj.cells.injEq] at h5
      exact absurd h5.2.1 (by decide)
    rw [far _ _ hne, hblk ga (box_lt g1) (fun e => own_type h.op g1 (by decide) e)]
    exact g1
  · rw [List.length_append, List.length_singleton, spL_snoc]
    refine owns_far a2 ?_
    simp only [Value.ownBlock]
    exact fun e => hgf (by simpa using e)
  · have hne : MB j ≠ fb := fun e => h.mapNe hj h.box e.symm
    obtain ⟨n2, h3, h4⟩ := h.mp j hj
    exact ⟨n2, h3.keep ((far _ _ hne).trans (hblk _ h3.lt (h.opMap hj))), h4⟩
  · rw [List.length_append, List.length_singleton]
    omega
  · have e : (w3.setCell ⟨fb, 3, none⟩ (.slice (some ⟨g, 0, none⟩) (O.length + 1) cap)).heap.size = w3.heap.size := by simp [World.setCell]
    rw [e]
    exact hsz
  · rw [far _ _ hne, hblk b (Array.getElem?_eq_some_iff.1 hb).1 ho]
  · have e2 : g = q := by simpa [Value.ownBlock] using hq
    subst e2
    rcases a4 with a4 | a4
    · exact Or.inl a4
    · exact Or.inr (by omega)
end

attribute [local go_sem ↓] appS_eq in
set_option maxRecDepth 100000 in
set_option maxHeartbeats 1600000 in
theorem fmeet_any (w W : World) (fb ga ac l cc rg : Nat) (ca : Option Addr) (MB : Nat → Nat) (ov : Value) (E : Nat → Nat → Vl) (O : List (Nat × Nat)) (h : FlV w W fb ga ac l cc rg ca MB ov E O) (i s : Nat) (hi : i ≤ l) (hs : s < rg) (hrg : rg ≤ 200) (v : Vl) :
    Calls Tryd.prog 59 #[.pointer (some ⟨fb, 0, none⟩), .agg #[.int .i64 (i : Int), .int .i64 (s : Int)], .agg #[.int .i64 (v.st : Int), .int .i64 v.nb]] W fun e w' => ∃ ov', e = .returned (.tuple #[]) ∧ FlV w w' fb ga ac l cc rg ca MB ov' (updE E i s ((E i s).meet v)) (newO E i s v O) ∧ KpF W w' fb ov ov' := by
  have HJ : Hid (∀ (V : World) (a b : Vl), Calls Tryd.prog 100 #[.agg #[.int .i64 (a.st : Int), .int .i64 a.nb], .agg #[.int .i64 (b.st : Int), .int .i64 b.nb]] V fun e w' => ∃ c : Vl, e = .returned (.agg #[.int .i64 (c.st : Int), .int .i64 c.nb]) ∧ Hid (c = a.meet b) ∧ Below V.heap.size V w') := fun V a b => (joined_any a b V).mono fun e w' ⟨h1, h2⟩ => ⟨_, h1, rfl, h2⟩
  obtain ⟨oa, oc, rfl⟩ := fam_form h.op
  have HI := Hid.out (p := Hid _) h
  obtain ⟨n, hmp, -⟩ := h.mp i hi
  have hiI : (i : Int) < (l : Int) + 1 := by omega
  have hil : i < l + 1 := by omega
  obtain ⟨x, hx⟩ : ∃ x, E i s = x := ⟨_, rfl⟩
  have HX := Hid.out (p := Hid _) hx
  have HLK : Hid (∀ V, Below W.heap.size W V → (Instr.lookup 110 (.map (some (MB i))) (.int .i64 (s : Int)) false).run Tryd.prog V = .ok (.agg #[.int .i64 (x.st : Int), .int .i64 x.nb]) V) := fun V hV => by
    have := (hmp.keep (hV.block _ hmp.lt)).look hs (by omega)
    rw [hx] at this
    exact this
  have c2 : W.cell? ⟨fb, 2, none⟩ = some (.slice (some ⟨ga, 0, none⟩) (l + 1) ac) := box_cell h.box rfl
  have a0 := h.at hi
  obtain ⟨mb, hmb⟩ : ∃ m, MB i = m := ⟨_, rfl⟩
  rw [hmb] at a0 HLK
  have c2u := fun o o' => cell_up (cell_up c2 o) o'
  have a0u := fun o o' => cell_up (cell_up a0 o) o'
  have c2v := fun o o' o2 => cell_up (c2u o o') o2
  have a0v := fun o o' o2 => cell_up (a0u o o') o2
  have l1 := fun o o' => HLK.out ((W.alloc o).alloc o').drew (low2 W o o').drew
  have l2 := fun o o' o2 => HLK.out (((W.alloc o).alloc o').alloc o2).drew (low3 W o o' o2).drew
  have HMB := Hid.out (p := Hid _) hmb
  clear h hmp hx hmb
  go_enter Tryd.func59, Tryd.ntmps59
  go_wp2_with fail
  go_region
  go_wp2_with fail
  refine Calls.mono (HJ.out _ _ _) ?_
  rintro e1 w5 ⟨c, rfl, HC, hb5⟩
  have hbW : Below W.heap.size W w5 := (low3 W _ _ _).drew.trans (hb5.mono (low3 W _ _ _).drew.size)
  have hx5 : w5.heap[W.heap.size + 2]? = some (.cells #[.int .i64 (x.st : Int), .int .i64 x.nb] 116) := by
    have h0 := heap_alloc_new ((W.alloc (.cells #[.int .i64 (i : Int), .int .i64 (s : Int)] 113)).alloc (.cells #[.int .i64 (v.st : Int), .int .i64 v.nb] 116)) (.cells #[.int .i64 (x.st : Int), .int .i64 x.nb] 116)
    rw [World.size_alloc, World.size_alloc] at h0
    exact (hb5.block _ (Array.getElem?_eq_some_iff.1 h0).1).trans h0
  have hs5 : w5.heap[W.heap.size]? = some (.cells #[.int .i64 (i : Int), .int .i64 (s : Int)] 113) := by
    have h1 := box_later (box_later (heap_alloc_new W (.cells #[.int .i64 (i : Int), .int .i64 (s : Int)] 113)) (.cells #[.int .i64 (v.st : Int), .int .i64 v.nb] 116)) (.cells #[.int .i64 (x.st : Int), .int .i64 x.nb] 116)
    exact (hb5.block _ (Array.getElem?_eq_some_iff.1 h1).1).trans h1
  have x0 : ∀ o, (w5.alloc o).cell? ⟨W.heap.size + 1 + 1, 0, none⟩ = some (.int .i64 (x.st : Int)) := fun o => cell_up (box_cell hx5 rfl) o
  have x1 : ∀ o, (w5.alloc o).cell? ⟨W.heap.size + 1 + 1, 1, none⟩ = some (.int .i64 x.nb) := fun o => cell_up (box_cell hx5 rfl) o
  have s0 : ∀ o, (w5.alloc o).cell? ⟨W.heap.size, 0, none⟩ = some (.int .i64 (i : Int)) := fun o => cell_up (box_cell hs5 rfl) o
  have s1 : ∀ o, (w5.alloc o).cell? ⟨W.heap.size, 1, none⟩ = some (.int .i64 (s : Int)) := fun o => cell_up (box_cell hs5 rfl) o
  have HI5 := Hid.out (p := Hid _) (And.intro (HI.out.below hbW) (And.intro hs5 hbW))
  clear hb5 hbW hx5 hs5 c2 a0 c2u a0u c2v a0v l1 l2 HJ HLK
  by_cases hcx : c = x
  · subst hcx
    go_wp2_with fail
    go_end0
    have hm : (E i s).meet v = E i s := by rw [HX.out]; exact HC.out.symm
    have hbl : Below w5.heap.size w5 (w5.alloc (.cells #[.int .i64 (c.st : Int), .int .i64 c.nb] 116)) := (Below.refl _ _).alloc (Nat.le_refl _) _
    refine ⟨_, rfl, ?_, KpF.low (HI5.out.2.2.alloc HI5.out.2.2.size _)⟩
    rw [updE_self hm]
    unfold newO
    rw [if_pos hm]
    exact HI5.out.1.below hbl
  · have hst : ((c.st : Int) == (x.st : Int)) = false := by
      rw [HC.out]
      exact meet_stP (by rw [← HC.out]; exact hcx)
    obtain ⟨cs, hcs⟩ : ∃ z : Int, (c.st : Int) = z := ⟨_, rfl⟩
    obtain ⟨xs, hxs⟩ : ∃ z : Int, (x.st : Int) = z := ⟨_, rfl⟩
    have hst2 : (cs != xs) = true := by rw [← hcs, ← hxs]; simpa using hst
    have hm : (E i s).meet v = c := by rw [HX.out]; exact HC.out.symm
    have hmn : (E i s).meet v ≠ E i s := by rw [hm, HX.out]; exact hcx
    rw [hcs, hxs] at hst
    rw [hxs] at x0
    rw [hcs]
    have hb6 : Below w5.heap.size w5 (w5.alloc (.cells #[.int .i64 cs, .int .i64 c.nb] 116)).drew := ((Below.refl _ _).alloc (Nat.le_refl _) _).drew
    have h6 := HI5.out.1.below hb6
    obtain ⟨w7, r7, h7, hl7, hc7, hz7⟩ := h6.mput hi hs hrg hmn
    obtain ⟨g, cap, w8, r8, hfb8, h8, k8⟩ := (h7.below (Below.refl _ _).drew).app i s hl7
    have r7' : (Instr.mapUpdate 110 (.map (some mb)) (.int .i64 (s : Int)) (.agg #[.int .i64 cs, .int .i64 c.nb])).run Tryd.prog (w5.alloc (.cells #[.int .i64 cs, .int .i64 c.nb] 116)).drew = .ok () w7 := by
      rw [hm, HMB.out] at r7
      rw [← hcs]
      rw [← hcs] at r7
      exact r7
    have r8' : (AppS #[107, 107] 107 #[.slice oa O.length oc, .slice (some ⟨w7.heap.size, 0, none⟩) 1 1]).run Tryd.prog (w7.alloc (.cells #[.int .i64 (i : Int), .int .i64 (s : Int)] 113)).drew = .ok (.slice (some ⟨g, 0, none⟩) (O.length + 1) cap) w8 := r8
    have c2 : (w5.alloc (.cells #[.int .i64 cs, .int .i64 c.nb] 116)).cell? ⟨fb, 2, none⟩ = some (.slice (some ⟨ga, 0, none⟩) (l + 1) ac) := box_cell h6.box rfl
    have a0 : (w5.alloc (.cells #[.int .i64 cs, .int .i64 c.nb] 116)).cell? ⟨ga, i, none⟩ = some (.map (some mb)) := by rw [← HMB.out]; exact h6.at hi
    have hs6 : (w5.alloc (.cells #[.int .i64 cs, .int .i64 c.nb] 116)).heap[W.heap.size]? = some (.cells #[.int .i64 (i : Int), .int .i64 (s : Int)] 113) := box_later HI5.out.2.1 _
    have hs7 := (hc7 _ _ _ _ hs6).trans hs6
    have d3 : w7.cell? ⟨fb, 3, none⟩ = some (.slice oa O.length oc) := box_cell h7.box rfl
    have d0 : w7.cell? ⟨W.heap.size, 0, none⟩ = some (.int .i64 (i : Int)) := box_cell hs7 rfl
    have d1 : w7.cell? ⟨W.heap.size, 1, none⟩ = some (.int .i64 (s : Int)) := box_cell hs7 rfl
    have e3 : w8.cell? ⟨fb, 3, none⟩ = some (.slice oa O.length oc) := box_cell (hfb8.trans h7.box) rfl
    have ef : w8.frozen? ⟨fb, 3, none⟩ = false := box_free (hfb8.trans h7.box)
    have d3u := fun o => cell_up d3 o
    have d0u := fun o => cell_up d0 o
    have d1u := fun o => cell_up d1 o
    have HFIN : Hid (FlV w (w8.setCell ⟨fb, 3, none⟩ (.slice (some ⟨g, 0, none⟩) (O.length + 1) cap)) fb ga ac l cc rg ca MB (.slice (some ⟨g, 0, none⟩) (O.length + 1) cap) (updE E i s ((E i s).meet v)) (newO E i s v O) ∧ KpF W (w8.setCell ⟨fb, 3, none⟩ (.slice (some ⟨g, 0, none⟩) (O.length + 1) cap)) fb (.slice oa O.length oc) (.slice (some ⟨g, 0, none⟩) (O.length + 1) cap)) := by
      have hO : newO E i s v O = O ++ [(i, s)] := if_neg hmn
      rw [hO]
      have hk7 : KpF (w5.alloc (.cells #[.int .i64 cs, .int .i64 c.nb] 116)).drew w7 fb (.slice oa O.length oc) (.slice oa O.length oc) := ⟨hz7, fun b c ty fr hb _ _ => hc7 b c ty fr hb, fun g hg => Or.inl hg⟩
      exact ⟨h8, (KpF.low (HI5.out.2.2.trans (hb6.mono HI5.out.2.2.size))).trans (hk7.trans (show KpF w7 _ fb _ _ from ⟨k8.size, k8.block, k8.own⟩))⟩
    clear h6 h7 h8 k8 hc7 hz7 hfb8 hs6 hs7 r7 r8 hcs hxs hm hmn hcx hb6 HI5 HI HX HC
    go_wp2_with fail
    refine region_tail 11 (by kernel_rfl) (by kernel_rfl) ?_
    simp only [List.take_succ_cons, List.take_zero, List.drop_succ_cons, List.drop_zero]
    repeat still_step
    refine wpStill_nil ?_
    go_wp2_with fail
    go_region
    all_goals go_wp2_with fail
    all_goals go_end0
    all_goals exact ⟨_, rfl, HFIN.out⟩

end Go.Proofs.YtkailbdjilkneaaDoor
