/-
  What the program's readLines does.
-/
import Derived.Test.YthbebnegmenejaaGreatDoorLineE
namespace Go.Proofs.YthbebnegmenejaaGreatDoor
open Go.RowKit

/-- The lines read from number k on: the number of the first that cannot be so, or the program. -/
def runL : Nat → List (List UInt8) → St → Nat ⊕ St
  | _, [], st => .inr st
  | k, l :: r, st => match stepL k l st with
    | none => .inl k
    | some st' => runL (k + 1) r st'

theorem lt_of_heap {w : World} {k : Nat} {o : Obj} (h : w.heap[k]? = some o) : k < w.heap.size := by
  rcases Nat.lt_or_ge k w.heap.size with h1 | h1
  · exact h1
  · rw [Array.getElem?_eq_none h1] at h; cases h
theorem cut_pos {ps : List ByteArray} {c : UInt8} {l : List UInt8} (h : ps.map (·.data.toList) = cutL c l) : 0 < ps.length := by
  have hne := cutL_ne c l
  rw [← h] at hne
  cases ps <;> simp_all

abbrev rdObj (mb : Nat) : Obj := .cells #[nilS, nilS, .int .i64 0, .int .i64 0, .map (some mb), .map none] 81

theorem reader_start {w2 w3 : World} {mb : Nat} {js : List Nat} (hb3 : Below (w2.heap.size + 1) (w2.alloc (rdObj mb)) w3) (hm : w2.heap[mb]? = some (.map shapesArr 18)) (hops : w3.heap[w2.heap.size + 1]? = some (.map (opsE js) js.length)) (hall : ∀ j, j < 18 → j ∈ js) (hjs : ∀ j ∈ js, j < 18) :
    PSt (w3.setCell ⟨w2.heap.size, 5, none⟩ (.map (some (w2.heap.size + 1)))) (w2.heap.size + 2) w2.heap.size nilS nilS [] ⟨[], 0, 0, []⟩ ∧ Rd (w3.setCell ⟨w2.heap.size, 5, none⟩ (.map (some (w2.heap.size + 1)))) (w2.heap.size + 2) w2.heap.size mb (w2.heap.size + 1) js ∧ Below w2.heap.size w2 (w3.setCell ⟨w2.heap.size, 5, none⟩ (.map (some (w2.heap.size + 1)))) ∧ w3.cell? ⟨w2.heap.size, 5, none⟩ = some (.map none) ∧ w3.frozen? ⟨w2.heap.size, 5, none⟩ = false := by
  have hlt : mb < w2.heap.size := by
    rcases Nat.lt_or_ge mb w2.heap.size with h | h
    · exact h
    · rw [Array.getElem?_eq_none h] at hm; cases hm
  have hlo : w2.heap.size + 1 < w3.heap.size := by
    rcases Nat.lt_or_ge (w2.heap.size + 1) w3.heap.size with h | h
    · exact h
    · rw [Array.getElem?_eq_none h] at hops; cases hops
  have hc : ∀ i, w3.cell? ⟨w2.heap.size, i, none⟩ = (w2.alloc (rdObj mb)).cell? ⟨w2.heap.size, i, none⟩ := fun i => hb3.cell (by show w2.heap.size < _; omega)
  have hf : ∀ i, w3.frozen? ⟨w2.heap.size, i, none⟩ = false := fun i => by
    rw [hb3.frozen (by show w2.heap.size < _; omega)]
    simp only [World.frozen?, heap_alloc_new]
    simp
  have ho : ∀ i, i ≠ 5 → (w3.setCell ⟨w2.heap.size, 5, none⟩ (.map (some (w2.heap.size + 1)))).cell? ⟨w2.heap.size, i, none⟩ = (w2.alloc (rdObj mb)).cell? ⟨w2.heap.size, i, none⟩ := fun i hi => by
    rw [World.cell?_setCell_other _ _ _ _ (by simp <;> omega)]
    exact hc i
  have h5 : w3.cell? ⟨w2.heap.size, 5, none⟩ = some (.map none) := by rw [hc]; simp
  refine ⟨⟨by rw [ho 0 (by decide)]; simp, by rw [ho 1 (by decide)]; simp, by rw [ho 2 (by decide)]; simp, by rw [ho 3 (by decide)]; simp, fun i _ => by rw [World.frozen?_setCell]; exact hf i, by omega, by simp [World.setCell]; omega, built_start _ _⟩, ⟨by rw [ho 4 (by decide)]; simp, World.cell?_setCell_same _ _ _ h5, ?_, ?_, hall, hjs, by omega, by omega, by omega, by omega⟩, ?_, h5, hf 5⟩
  · rw [Below.heap_setCell _ _ _ _ (by show mb ≠ w2.heap.size; omega), hb3.block mb (by omega), heap_alloc_old w2 _ hlt]
    exact hm
  · rw [Below.heap_setCell _ _ _ _ (by show w2.heap.size + 1 ≠ w2.heap.size; omega)]
    exact hops
  · exact (((Below.refl _ _).alloc (Nat.le_refl _) _).trans (hb3.mono (by omega))).setCell (by simp) _

/-- What the lines say: the number of the first that cannot be so, or the program. -/
def st0 : St := ⟨[], 0, 0, []⟩
def readL (l : List UInt8) : Nat ⊕ St :=
  match runL 0 (cutL 10 l).dropLast st0 with
  | .inl k => .inl k
  | .inr st => if (cutL 10 l).length - 1 < 4 ∨ (cutL 10 l).getLast? ≠ some [] then .inl ((cutL 10 l).length - 1) else .inr st

/-- What is handed back of a text. -/
def ReadQ (B0 : Nat) (l : List UInt8) (bad : Value) (e : Ending) (w' : World) : Prop :=
  match readL l with
  | .inl k => e = .returned (.tuple #[.agg #[nilS, nilS, .int .i64 0, .int .i64 0], .int .i64 (k : Int), bad])
  | .inr st => ∃ cv wv tv B, B0 ≤ B ∧ e = .returned (.tuple #[.agg #[cv, wv, .int .i64 st.lk, .int .i64 st.rg], .int .i64 0, .nilIface]) ∧ Built w' B cv wv tv st.ths st.words

structure Res (w : World) (rb : Nat) : Prop where
  c0 : w.cell? ⟨rb, 0, none⟩ = some nilS
  c1 : w.cell? ⟨rb, 1, none⟩ = some nilS
  c2 : w.cell? ⟨rb, 2, none⟩ = some (.int .i64 0)
  c3 : w.cell? ⟨rb, 3, none⟩ = some (.int .i64 0)
  f : ∀ i, w.frozen? ⟨rb, i, none⟩ = false
theorem Res.block {w w' : World} {rb : Nat} (h : Res w rb) (hb : w'.heap[rb]? = w.heap[rb]?) : Res w' rb :=
  ⟨(World.cell?_of_block (w := w) hb).trans h.c0, (World.cell?_of_block (w := w) hb).trans h.c1, (World.cell?_of_block (w := w) hb).trans h.c2, (World.cell?_of_block (w := w) hb).trans h.c3, fun i => (World.frozen?_of_block (w := w) hb).trans (h.f i)⟩
theorem Res.start (w : World) (t : TypeId) : Res (w.alloc (.cells #[nilS, nilS, .int .i64 0, .int .i64 0] t)) w.heap.size :=
  ⟨by simp, by simp, by simp, by simp, fun i => by simp only [World.frozen?, heap_alloc_new]; simp⟩
theorem below_kept {B pb : Nat} {w w4 wr : World} (h : Below w.heap.size w w4) (hk : Kept B pb w4 wr) (h1 : w.heap.size ≤ pb) (h2 : pb < B) : Below w.heap.size w wr :=
  ⟨hk.os.trans h.os, hk.tape.trans h.tape, hk.output.trans h.output, Nat.le_trans h.size hk.size, fun i hi => (hk.block i (by omega) (by omega)).trans (h.block i hi)⟩

theorem drop_line {ps : List ByteArray} {k : Nat} (hk : k < ps.length - 1) : (ps.map (·.data.toList)).dropLast.drop k = (ps[k]'(by omega)).data.toList :: (ps.map (·.data.toList)).dropLast.drop (k + 1) := by
  have h : k < (ps.map (·.data.toList)).dropLast.length := by simp; omega
  rw [List.drop_eq_getElem_cons h]
  simp

set_option maxRecDepth 100000 in
set_option maxHeartbeats 1600000 in
theorem readLines_any (s : ByteArray) (hs : s.size ≤ 4000) (te : TypeId) (ep : Value) (w : World) (hE : Env w te ep) :
    Calls Tryz.prog 20 #[.string s] w fun e w' => ReadQ w.heap.size s.data.toList (.iface te ep) e w' ∧ Below w.heap.size w w' := by
  obtain ⟨m, hm⟩ := hE.len
  go_enter Tryz.func20, Tryz.ntmps20
  go_wp2_with (first | (go_at_call 30; refine (split_any s 10 hs m _ ((World.cell?_alloc_lt _ _ _ (lt_of_cell hm)).trans hm)).mono ?_; rintro e w1 ⟨v, ps, rfl, hps, ⟨b, cap, rfl, hcap, hcell⟩, hb1⟩; have HPS := Hid.out (p := Hid _) hps; have HCELL := Hid.out (p := Hid _) hcell; have hp0 := cut_pos hps; have hpl := (pieces hps hs).1; clear hps hcell) | (go_at_call 12; refine (shapes_some _).mono ?_; rintro e w2 ⟨rfl, hmap, hb2⟩; have HMAP := Hid.out (p := Hid _) hmap; clear hmap) | (go_at_call 31; refine (opsByName_any _ _ (by rw [heap_alloc_old w2 _ (lt_of_heap HMAP.out)]; exact HMAP.out)).mono ?_; rintro e w3 ⟨js, hall, hjs, rfl, hops, hb3⟩; rw [World.size_alloc] at hops hb3; obtain ⟨hP, hR, hb4, k5, f5⟩ := reader_start hb3 HMAP.out hops hall hjs))
  have hB1 : Below w.heap.size w w1 := ((Below.refl _ _).alloc (Nat.le_refl _) _).trans (hb1.mono (by simp))
  have hB2 : Below w.heap.size w w2 := hB1.trans (hb2.mono hB1.size)
  obtain ⟨W4, hW4⟩ : ∃ W4, w3.setCell ⟨w2.heap.size, 5, none⟩ (.map (some (w2.heap.size + 1))) = W4 := ⟨_, rfl⟩
  rw [hW4] at hP hR hb4
  have hB4 : Below w.heap.size w W4 := hB2.trans (hb4.mono hB2.size)
  have HCELL4 : Hid (∀ (i : Nat) (h : i < ps.length), W4.cell? ⟨b, i, none⟩ = some (.string ps[i])) := fun i h => by
    have h1 := HCELL.out i h
    have h2 := (hb2.cell (lt_of_cell h1)).trans h1
    exact (hb4.cell (lt_of_cell h2)).trans h2
  have hres : Res W4 w.heap.size := (((Res.start w 25).block (hb1.block _ (by simp))).block (hb2.block _ (by have := hb1.size; simp at this; omega))).block (hb4.block _ (by have h1 := hb1.size; have h2 := hb2.size; simp at h1; omega))
  have hs12 : w.heap.size + 1 ≤ w1.heap.size := by have := hb1.size; simpa using this
  have hs2 := hb2.size
  have hbl : b < w1.heap.size := lt_of_cell (HCELL.out 0 hp0)
  rw [hW4]
  clear hW4 k5 f5 hops hb1 hb2 hb3 hb4 hB1 hB2
  go_loopw [26] (fun i wr => ∃ (k : Nat) (cv wv : Value) (tv : List Value) (st : St), k ≤ ps.length - 1 ∧ i = .int .i64 k ∧ PSt wr (w2.heap.size + 2) w2.heap.size cv wv tv st ∧ Rd wr (w2.heap.size + 2) w2.heap.size (w1.heap.size + 1) (w2.heap.size + 1) js ∧ Kept (w2.heap.size + 2) w2.heap.size W4 wr ∧ Sz k st ∧ runL 0 (ps.map (·.data.toList)).dropLast st0 = runL k ((ps.map (·.data.toList)).dropLast.drop k) st) (fun i _ => ps.length - (intOf i).toNat)
  case atStart => exact ⟨0, nilS, nilS, [], st0, Nat.zero_le _, rfl, hP, hR, Kept.refl _ _ _, ⟨Nat.zero_le _, fun t => by simp [st0]⟩, rfl⟩
  case round =>
    obtain ⟨k, cv, wv, tv, st, hk, rfl, hPr, hRr, hkr, hz, hrun⟩ := hrel
    have HRUN := Hid.out (p := Hid _) hrun
    clear hrun
    have hbr := below_kept hB4 hkr (by omega) (by omega)
    have hEr := hE.below hbr
    have hresr := hres.block (hkr.block w.heap.size (by omega) (by omega))
    by_cases hlt : k < ps.length - 1
    · have hk1 : k < ps.length := by omega
      have h0 : wr.cell? ⟨b, k, none⟩ = some (.string (ps[k]'hk1)) := (World.cell?_of_block (w := W4) (hkr.block b (by omega) (by omega))).trans (HCELL4.out k hk1)
      have hps := (pieces HPS.out hs).2 k hk1
      have HD := Hid.out (p := Hid _) (drop_line hlt)
      obtain ⟨pc, hpc⟩ : ∃ pc, ps[k]'hk1 = pc := ⟨_, rfl⟩
      rw [hpc] at h0 hps
      have HPC : Hid (ps[k]'hk1 = pc) := hpc
      clear hpc
      cases hst : stepL k pc.data.toList st with
      | none =>
        have HST : Hid (stepL k pc.data.toList st = none) := hst
        clear hst
        go_wp2_with (first | (go_at_call 32; refine (readLine_any (w2.heap.size + 2) w2.heap.size (w1.heap.size + 1) (w2.heap.size + 1) js k (by omega) pc hps te ep _ hEr cv wv tv st hPr hRr hz).mono ?_; rintro e w5 ⟨hk5, hL⟩; rw [HST.out] at hL; obtain rfl := hL; have hres5 := hresr.block (hk5.block w.heap.size (by omega) (by omega)); have r0 := hres5.c0; have r1 := hres5.c1; have r2 := hres5.c2; have r3 := hres5.c3; have rf := hres5.f))
        have hq : readL s.data.toList = .inl k := by
          unfold readL
          rw [← HPS.out, HRUN.out, HD.out, HPC.out, runL, HST.out]
        refine bodyPost_ret (v := .tuple #[.agg #[nilS, nilS, .int .i64 0, .int .i64 0], .int .i64 (k : Int), .iface te ep]) (by simp [results, Tryz.results20, go_sem, r0, r1, r2, r3]) rfl ⟨?_, ?_⟩
        · unfold ReadQ
          rw [hq]
        · exact ((((below_kept hB4 (hkr.trans hk5) (by omega) (by omega)).setCell (Nat.le_refl _) _).setCell (Nat.le_refl _) _).setCell (Nat.le_refl _) _).setCell (Nat.le_refl _) _
      | some st' =>
        have HST : Hid (stepL k pc.data.toList st = some st') := hst
        clear hst
        go_wp2_with (first | (go_at_call 32; refine (readLine_any (w2.heap.size + 2) w2.heap.size (w1.heap.size + 1) (w2.heap.size + 1) js k (by omega) pc hps te ep _ hEr cv wv tv st hPr hRr hz).mono ?_; rintro e w5 ⟨hk5, hL⟩; rw [HST.out] at hL; obtain ⟨rfl, hR5, cv5, wv5, tv5, hP5⟩ := hL))
        go_roundw
        case rel =>
          refine ⟨k + 1, cv5, wv5, tv5, st', by omega, by go_num, hP5, hR5, hkr.trans hk5, hz.step HST.out, ?_⟩
          rw [HRUN.out, HD.out, HPC.out, runL, HST.out]
        case measure => simp [intOf]; omega
    · obtain ⟨n, hn⟩ : ∃ n, n + 1 = ps.length := ⟨ps.length - 1, by omega⟩
      have hni : (ps.length : Int) - 1 = (n : Int) := by omega
      have hkn : k = n := by omega
      subst hkn
      have HR : Hid (runL 0 (ps.map (·.data.toList)).dropLast st0 = .inr st) := by
        show _ = _
        rw [HRUN.out, List.drop_of_length_le (by simp; omega), runL]
      have HLEN : Hid ((cutL 10 s.data.toList).length - 1 = k) := by
        show _ = _
        rw [← HPS.out]; simp; omega
      have r0 := hresr.c0
      have r1 := hresr.c1
      have r2 := hresr.c2
      have r3 := hresr.c3
      have rf := hresr.f
      have e0 := hEr.err
      have hw0 : ¬ w.heap.size = 0 := by have := lt_of_cell hE.err; show ¬ _; intro e; simp [e] at this
      have hw1 : ¬ 0 = w.heap.size := fun e => hw0 e.symm
      have hkp : k < ps.length := by omega
      have h0 : wr.cell? ⟨b, k, none⟩ = some (.string (ps[k]'hkp)) := (World.cell?_of_block (w := W4) (hkr.block b (by omega) (by omega))).trans (HCELL4.out k hkp)
      have HGL : Hid ((cutL 10 s.data.toList).getLast? = some (ps[k]'hkp).data.toList) := by
        show _ = _
        rw [← HPS.out, List.getLast?_eq_getElem?]
        simp [← hn]
      obtain ⟨pc, hpc⟩ : ∃ pc, ps[k]'hkp = pc := ⟨_, rfl⟩
      rw [hpc] at h0
      have HPC : Hid (ps[k]'hkp = pc) := hpc
      clear hpc
      by_cases h4 : k < 4
      · have hi4 : (k : Int) < 4 := by omega
        have hq : readL s.data.toList = .inl k := by
          unfold readL
          rw [← HPS.out, HR.out, HPS.out, HLEN.out]
          simp [h4]
        have HQ := Hid.out (p := Hid _) hq
        clear hq
        go_wp2
        go_region
        all_goals go_wp2
        all_goals refine bodyPost_ret (v := .tuple #[.agg #[nilS, nilS, .int .i64 0, .int .i64 0], .int .i64 (k : Int), .iface te ep]) (by simp [results, Tryz.results20, go_sem, r0, r1, r2, r3]) rfl ⟨?_, ?_⟩
        all_goals first | (unfold ReadQ; rw [HQ.out]; done) | exact (((hbr.drew.setCell (Nat.le_refl _) _).setCell (Nat.le_refl _) _).setCell (Nat.le_refl _) _).setCell (Nat.le_refl _) _ | exact ((((hbr.setCell (Nat.le_refl _) _).setCell (Nat.le_refl _) _).setCell (Nat.le_refl _) _).setCell (Nat.le_refl _) _).drew
      · have hi4 : ¬ (k : Int) < 4 := by omega
        by_cases he : pc.data.toList = []
        · obtain rfl := str_of he
          obtain ⟨ca, cc, rfl⟩ := owns_slice hPr.built.code
          obtain ⟨wa, wc, rfl⟩ := owns_slice hPr.built.words
          have p0 := hPr.c0
          have p1 := hPr.c1
          have p2 := hPr.c2
          have p3 := hPr.c3
          have hq : readL s.data.toList = .inr st := by
            unfold readL
            rw [← HPS.out, HR.out, HPS.out, HLEN.out, HGL.out, HPC.out]
            simp [h4]
          go_wp2
          refine bodyPost_ret (v := .tuple #[.agg #[.slice ca st.ths.length cc, .slice wa st.words.length wc, .int .i64 st.lk, .int .i64 st.rg], .int .i64 0, .nilIface]) (by simp [results, Tryz.results20, go_sem, r0, r1, r2, r3]) rfl ⟨?_, ?_⟩
          · unfold ReadQ
            rw [hq]
            refine ⟨_, _, tv, w2.heap.size + 2, by omega, rfl, ?_⟩
            exact (((hPr.built.store (show w.heap.size < _ by omega) _).store (show w.heap.size < _ by omega) _).store (show w.heap.size < _ by omega) _).store (show w.heap.size < _ by omega) _
          · exact (((hbr.setCell (Nat.le_refl _) _).setCell (Nat.le_refl _) _).setCell (Nat.le_refl _) _).setCell (Nat.le_refl _) _
        · have hne : (pc.toList == []) = false := by rw [Lib.toList_data]; simpa using he
          have HE : Hid (¬ pc.data.toList = []) := he
          clear he
          have hq : readL s.data.toList = .inl k := by
            unfold readL
            rw [← HPS.out, HR.out, HPS.out, HLEN.out, HGL.out, HPC.out]
            simp [HE.out]
          have HQ := Hid.out (p := Hid _) hq
          clear hq
          go_wp2
          go_region
          all_goals go_wp2
          all_goals refine bodyPost_ret (v := .tuple #[.agg #[nilS, nilS, .int .i64 0, .int .i64 0], .int .i64 (k : Int), .iface te ep]) (by simp [results, Tryz.results20, go_sem, r0, r1, r2, r3]) rfl ⟨?_, ?_⟩
          all_goals first | (unfold ReadQ; rw [HQ.out]; done) | exact (((hbr.drew.setCell (Nat.le_refl _) _).setCell (Nat.le_refl _) _).setCell (Nat.le_refl _) _).setCell (Nat.le_refl _) _ | exact ((((hbr.setCell (Nat.le_refl _) _).setCell (Nat.le_refl _) _).setCell (Nat.le_refl _) _).setCell (Nat.le_refl _) _).drew

end Go.Proofs.YthbebnegmenejaaGreatDoor
