/-
  What the program's addOrder does, where the order is one.
-/
import Derived.Test.YthbebnegmenejaaGreatDoorAddS
import Derived.Deep.DrawnRows
import Derived.Deep.RegionWith
namespace Go.Proofs.YthbebnegmenejaaGreatDoor
open Go.RowKit
attribute [local go_sem ↓] Go.wp_at_zero Go.wp_at_succ

attribute [local go_sem ↓] appSem_eq
set_option maxRecDepth 100000 in
set_option maxHeartbeats 16000000 in
theorem addOrder_yes (B pb mb ob gc n cap : Nat) (wv : Value) (tv : List Value) (st : St) (N : ByteArray) (op x y z : Int) (vs : List Int) (va : Option Addr) (vc Bv : Nat) (p : Nat) (hp : p + 1 = n) (HN : Hid (n = st.ths.length)) (hn4 : n ≤ 4000) (w : World)
    (h : PSt w B pb (.slice (some ⟨gc, 0, none⟩) n cap) wv tv st) (h4 : w.cell? ⟨pb, 4, none⟩ = some (.map (some mb))) (h5 : w.cell? ⟨pb, 5, none⟩ = some (.map (some ob)))
    (hl1 : (Instr.lookup 79 (.map (some ob)) (.string N) true).run Tryz.prog w = .ok (.tuple #[.int .i64 op, .bool true]) w)
    (hl2 : (Instr.lookup 43 (.map (some mb)) (.int .i64 op) false).run Tryz.prog w = .ok (.agg #[.string N, .int .i64 x, .int .i64 y, .int .i64 z]) w)
    (HC : Hid (cnt3 x y z = vs.length)) (hv3 : vs.length ≤ 3) (hvo : w.ownsRow Bv 3 1 (.slice va vs.length vc) vs.length (vs.map (Value.int .i64)))
    (hlen : (st.ths.getD p []).length ≤ 4000) :
    Calls Tryz.prog 42 #[.pointer (some ⟨pb, 0, none⟩), .string N, .slice va vs.length vc] w fun e w' => e = .returned .nilIface ∧ w'.heap[pb]? = w.heap[pb]? ∧ Kept B pb w w' ∧ ∃ tv', PSt w' B pb (.slice (some ⟨gc, 0, none⟩) n cap) wv tv' { st with ths := st.ths.set p (st.ths.getD p [] ++ [(op, vs.getD 0 0, vs.getD 1 0, vs.getD 2 0)]) } := by
  obtain ⟨i0, hi, hz0, hz1, hz2⟩ := info_parts infoInstr
  have c0 := h.c0
  have hni : (n : Int) - 1 = (p : Int) := by omega
  have hpi0 : (0 : Int) ≤ (p : Int) := by omega
  have hpi1 : (p : Int) < (n : Int) := by omega
  have hpn : p < st.ths.length := by have := HN.out; omega
  have hthr := h.built.thr p hpn
  obtain ⟨ta, tc, hT⟩ : ∃ ta tc, tv.getD p nilS = .slice ta (st.ths.getD p []).length tc := by
    rcases hthr.2 with ⟨h0, h1⟩ | ⟨g, cp, cur, hv, _⟩
    · exact ⟨none, 0, by rw [h0, h1]⟩
    · exact ⟨_, _, hv⟩
  have hcp : w.cell? ⟨gc, p, none⟩ = some (.slice ta (st.ths.getD p []).length tc) := by
    have hc := h.built.code
    rw [← HN.out] at hc
    have := hc.cellAt p (by omega)
    rw [this, ← hT]
    have hl := h.built.tv_len
    simp [List.getD, List.getElem?_eq_getElem (show p < tv.length by omega)]
  obtain ⟨tl, htl⟩ : ∃ tl, (st.ths.getD p []).length = tl := ⟨_, rfl⟩
  rw [htl] at hcp hT hlen
  have HTL : Hid ((st.ths.getD p []).length = tl) := htl
  have HT : Hid (tv.getD p nilS = .slice ta tl tc) := hT
  clear htl hT hthr
  have hfg : w.frozen? ⟨gc, p, none⟩ = false := owns_frozen h.built.code p
  obtain ⟨a0, ha0⟩ : ∃ a0, vs.getD 0 0 = a0 := ⟨_, rfl⟩
  obtain ⟨a1, ha1⟩ : ∃ a1, vs.getD 1 0 = a1 := ⟨_, rfl⟩
  obtain ⟨a2, ha2⟩ : ∃ a2, vs.getD 2 0 = a2 := ⟨_, rfl⟩
  have HA : Hid (vs.getD 0 0 = a0 ∧ vs.getD 1 0 = a1 ∧ vs.getD 2 0 = a2) := ⟨ha0, ha1, ha2⟩
  rw [ha0, ha1, ha2]
  clear ha0 ha1 ha2
  have hTpb : (Value.slice ta tl tc).ownBlock ≠ some pb := fun e => by
    have h1 := h.built.thr p hpn
    rw [HT.out] at h1
    have := (h1.lt pb e).1
    have := h.lt
    omega
  have hTgc : (Value.slice ta tl tc).ownBlock ≠ some gc := fun e => by
    have h1 := h.built.s1 p gc hpn (by rw [HT.out]; exact e)
    exact h1 rfl
  have hTw : ∀ k, w.heap.size ≤ k → (Value.slice ta tl tc).ownBlock ≠ some k := fun k hk e => by
    have h1 := h.built.thr p hpn
    rw [HT.out] at h1
    have := (h1.lt k e).2
    omega
  have HTO : Hid (w.ownsRow B 46 4 (.slice ta tl tc) tl (cellsT (st.ths.getD p []))) := by
    have h1 := h.built.thr p hpn
    rw [HT.out, HTL.out] at h1
    exact h1
  have hBw : B ≤ w.heap.size := h.le
  have HP : Hid (PSt w B pb (.slice (some ⟨gc, 0, none⟩) n cap) wv tv st) := h
  have hpb : pb < w.heap.size := lt_of_cell c0
  have hgc : gc < w.heap.size := lt_of_cell hcp
  clear h
  go_enter Tryz.func42, Tryz.ntmps42
  go_wp2_with (first | (go_at_call 14; refine (count_any N x y z vs.length HC _).mono ?_; rintro e w1 ⟨rfl, hb1⟩; have hcn := copy_nums vs hv3 Bv _ _ (owns_below2 hvo hb1); rw [HA.out.1, HA.out.2.1, HA.out.2.2] at hcn; have hfg' := (hb1.frozen hgc).trans hfg; have c0' := (hb1.cell hpb).trans c0; have hcp' := (hb1.cell hgc).trans hcp))
  have hs1 := hb1.size
  have hfa : ∀ o, (w1.alloc o).frozen? ⟨gc, p, none⟩ = false := fun o => (World.frozen?_alloc_past o gc p (by omega)).trans hfg'
  have hgc1 : gc < w1.heap.size := by omega
  have hpb1 : pb < w1.heap.size := by omega
  have hne1 : pb ≠ gc := by have := (HP.out.built.code.lt gc rfl).1; have := HP.out.lt; omega
  have hne2 : w1.heap.size ≠ gc := by omega
  go_region_with (go_at_call 49; refine (orderOf_any _ _ _ _ _).mono ?_; rintro e w2 ⟨rfl, hb2⟩; have hc2 := fun b o (h : b < w1.heap.size + 1) => hb2.cell (p := ⟨b, o, none⟩) (by simpa using h); have hs2 := hb2.size; have hf2 : w2.frozen? ⟨gc, p, none⟩ = false := (hb2.frozen (p := ⟨gc, p, none⟩) (by simp; omega)).trans (hfa _); have hfa2 : ∀ o, (w2.alloc o).frozen? ⟨gc, p, none⟩ = false := fun o => (World.frozen?_alloc_past o gc p (by simp at hs2; omega)).trans hf2; have hgc2 : gc < w2.heap.size := (by simp at hs2; omega); have hpb2 : pb < w2.heap.size := (by simp at hs2; omega); have hw2 : w1.heap.size < w2.heap.size := (by simp at hs2; omega); have k0 : w2.cell? ⟨pb, 0, none⟩ = some (.slice (some ⟨gc, 0, none⟩) n cap) := (hb2.cell (p := ⟨pb, 0, none⟩) (by simp; omega)).trans ((World.cell?_alloc_past _ pb 0 hpb1).trans c0'); have k1 : w2.cell? ⟨gc, p, none⟩ = some (.slice ta tl tc) := (hb2.cell (p := ⟨gc, p, none⟩) (by simp; omega)).trans ((World.cell?_alloc_past _ gc p hgc1).trans hcp'); have hB2 : Below w.heap.size w w2 := ((hb1.alloc hs1 _).drew).trans (hb2.mono (by simp; omega)); have hto2 := owns_below2 HTO.out hB2; have m0 : w2.cell? ⟨w1.heap.size, 0, none⟩ = some (.int .i64 a0) := (hb2.cell (p := ⟨w1.heap.size, 0, none⟩) (by simp)).trans (by simp); have m1 : w2.cell? ⟨w1.heap.size, 1, none⟩ = some (.int .i64 a1) := (hb2.cell (p := ⟨w1.heap.size, 1, none⟩) (by simp)).trans (by simp); have m2 : w2.cell? ⟨w1.heap.size, 2, none⟩ = some (.int .i64 a2) := (hb2.cell (p := ⟨w1.heap.size, 2, none⟩) (by simp)).trans (by simp); obtain ⟨g3, cap3, w3, hrun3', hown3, hgrow, hat, hlt⟩ := run_append_lies (P := Tryz.prog) (w2.alloc (.cells #[.int .i64 op, .int .i64 a0, .int .i64 a1, .int .i64 a2] 46)) 37 37 B 46 i0 _ 4 32 Tryz.underlying37 hi hz0 hz1 hz2 rfl (by omega) (.slice ta tl tc) tl _ (hto2.alloc _) ⟨w2.heap.size, 0, none⟩ 1 1 [.int .i64 op, .int .i64 a0, .int .i64 a1, .int .i64 a2] (by rfl) (World.news_of_block (cs := #[.int .i64 op, .int .i64 a0, .int .i64 a1, .int .i64 a2]) (t := 46) (fr := (0, 0)) (heap_alloc_new w2 _)) (by simp [Value.oneCell']) (by omega) (by unfold maxLen; omega) (by omega) (by have := hB2.size; simp; omega) (w2.heap.size + 1) (by simp); have hrun3 : (AppSem #[37, 37] 37 #[.slice ta tl tc, .slice (some ⟨w2.heap.size, 0, none⟩) 1 1]).run Tryz.prog (w2.alloc (.cells #[.int .i64 op, .int .i64 a0, .int .i64 a1, .int .i64 a2] 46)) = .ok (.slice (some ⟨g3, 0, none⟩) (tl + 1) cap3) w3 := hrun3'; clear hrun3'; have q0 := (hgrow.cell_far ⟨pb, 0, none⟩ (by show pb < _; rw [World.size_alloc]; omega) (Ne.symm hTpb)).trans ((World.cell?_alloc_past _ pb 0 hpb2).trans k0); have q1 := (hgrow.cell_far ⟨gc, p, none⟩ (by show gc < _; rw [World.size_alloc]; omega) (Ne.symm hTgc)).trans ((World.cell?_alloc_past _ gc p hgc2).trans k1); have qf := (hgrow.frozen_far ⟨gc, p, none⟩ (by show gc < _; rw [World.size_alloc]; omega) (Ne.symm hTgc)).trans (hfa2 _); have r0 := (hgrow.cell_far ⟨w1.heap.size, 0, none⟩ (by show w1.heap.size < _; rw [World.size_alloc]; omega) (Ne.symm (hTw _ hs1))).trans ((World.cell?_alloc_past _ _ 0 hw2).trans m0); have r1 := (hgrow.cell_far ⟨w1.heap.size, 1, none⟩ (by show w1.heap.size < _; rw [World.size_alloc]; omega) (Ne.symm (hTw _ hs1))).trans ((World.cell?_alloc_past _ _ 1 hw2).trans m1); have r2 := (hgrow.cell_far ⟨w1.heap.size, 2, none⟩ (by show w1.heap.size < _; rw [World.size_alloc]; omega) (Ne.symm (hTw _ hs1))).trans ((World.cell?_alloc_past _ _ 2 hw2).trans m2); have HFIN : Hid ((w3.setCell ⟨gc, p, none⟩ (.slice (some ⟨g3, 0, none⟩) (tl + 1) cap3)).heap[pb]? = w.heap[pb]? ∧ Kept B pb w (w3.setCell ⟨gc, p, none⟩ (.slice (some ⟨g3, 0, none⟩) (tl + 1) cap3)) ∧ ∃ tv', PSt (w3.setCell ⟨gc, p, none⟩ (.slice (some ⟨g3, 0, none⟩) (tl + 1) cap3)) B pb (.slice (some ⟨gc, 0, none⟩) n cap) wv tv' { st with ths := st.ths.set p (st.ths.getD p [] ++ [(op, a0, a1, a2)]) }) := addOrder_fin HP.out hB2 hp HN.out HT.out HTL.out hown3 hgrow hat)
  all_goals go_wp2
  all_goals go_ret
  all_goals exact ⟨rfl, HFIN.out⟩

end Go.Proofs.YthbebnegmenejaaGreatDoor
