/-
  What the document's Parse does.
-/
import Derived.Test.YthbebnegmenejaaDoorPutD
import Derived.Test.YthbebnegmenejaaDoorParseA
import Derived.Test.YthbebnegmenejaaDoorCheckR3
namespace Go.Proofs.YthbebnegmenejaaDoor
open Go.RowKit

set_option maxRecDepth 100000 in
set_option maxHeartbeats 1600000 in
theorem rparse_long (s : ByteArray) (hl : 4000 < s.size) (hm : s.size ≤ 9223372036854775807) (w : World) :
    Calls Tryd.prog 6 #[.string s] w fun e w' => ParseQ w.heap.size s.data.toList e w' ∧ Below w.heap.size w w' := by
  have hi : (4000 : Int) < (s.size : Int) := by omega
  go_enter Tryd.func6, Tryd.ntmps6
  go_wp2
  have hq : parseL s.data.toList = (st0, (1, 0, 0)) := by
    unfold parseL
    rw [if_pos (by rw [← Lib.size_eq]; exact hl)]
  refine bodyPost_ret (v := .tuple #[.agg #[nilS, nilS, .int .i64 0, .int .i64 0], ints3 1 0 0]) (by simp [results, Tryd.results6, go_sem]) rfl ⟨?_, ((Below.refl _ _).alloc (Nat.le_refl _) _).alloc (by simp) _⟩
  unfold ParseQ
  rw [hq]
  exact ⟨nilS, nilS, [], w.heap.size, Nat.le_refl _, rfl, built_start _ _⟩

theorem Bx.kept {w w' : World} {B B' pb : Nat} (h : Bx w B) (hk : Kept B' pb w w') (hl : B + 2 ≤ pb ∧ pb < B') : Bx w' B := by
  have e0 : w'.heap[B]? = w.heap[B]? := hk.block B (by omega) (by omega)
  have e1 : w'.heap[B + 1]? = w.heap[B + 1]? := hk.block (B + 1) (by omega) (by omega)
  exact ⟨Nat.le_trans h.lt hk.size, (World.cell?_of_block (w := w) e0).trans h.p0, (World.cell?_of_block (w := w) e0).trans h.p1, (World.cell?_of_block (w := w) e0).trans h.p2, (World.cell?_of_block (w := w) e0).trans h.p3, (World.cell?_of_block (w := w) e1).trans h.r0, (World.cell?_of_block (w := w) e1).trans h.r1, (World.cell?_of_block (w := w) e1).trans h.r2, fun i => (World.frozen?_of_block (w := w) e0).trans (h.pf i), fun i => (World.frozen?_of_block (w := w) e1).trans (h.rf i)⟩
theorem pst_start (w1 : World) : PSt (w1.alloc (.cells #[nilS, nilS, .int .i64 0, .int .i64 0] 25)) (w1.heap.size + 1) w1.heap.size nilS nilS [] st0 :=
  ⟨by simp, by simp, by simp [st0], by simp [st0], fun i _ => by simp only [World.frozen?, heap_alloc_new]; simp, by omega, by simp, built_start _ _⟩

set_option maxRecDepth 100000 in
set_option maxHeartbeats 3200000 in
theorem rparse_short (s : ByteArray) (hl : s.size ≤ 4000) (w : World) :
    Calls Tryd.prog 6 #[.string s] w fun e w' => ParseQ w.heap.size s.data.toList e w' ∧ Below w.heap.size w w' := by
  have hi : ¬ (4000 : Int) < (s.size : Int) := by omega
  have HLS : Hid (¬ 4000 < s.data.toList.length) := by show ¬ _; rw [← Lib.size_eq]; omega
  have hB0 := Bx.start w 25 28
  have hW0 : Below w.heap.size w ((w.alloc (.cells #[nilS, nilS, .int .i64 0, .int .i64 0] 25)).alloc (.cells #[.int .i64 0, .int .i64 0, .int .i64 0] 28)) := ((Below.refl _ _).alloc (Nat.le_refl _) _).alloc (by simp) _
  go_enter Tryd.func6, Tryd.ntmps6
  go_wp2_with (first | (go_at_call 12; refine (cut_any s hl 10 10 rfl _).mono ?_; rintro e w1 ⟨v, ps, rfl, hps, ⟨b, cap, rfl, hcap, hcell⟩, hb1⟩; have HPS := Hid.out (p := Hid _) hps; have HCELL := Hid.out (p := Hid _) hcell; have hp0 := cut_pos hps; have hpl := (pieces hps hl).1; have hbl := lt_of_cell (hcell 0 hp0); clear hps hcell))
  have hB1 := hB0.below hb1
  have hW1 : Below w.heap.size w w1 := hW0.trans (hb1.mono hW0.size)
  have hs12 : w.heap.size + 2 ≤ w1.heap.size := hB1.lt
  obtain ⟨n, hn⟩ : ∃ n, n + 1 = ps.length := ⟨ps.length - 1, by omega⟩
  have hni : (ps.length : Int) - 1 = (n : Int) := by omega
  obtain ⟨W4, hW4⟩ : ∃ W4, w1.alloc (.cells #[nilS, nilS, .int .i64 0, .int .i64 0] 25) = W4 := ⟨_, rfl⟩
  have hP : PSt W4 (w1.heap.size + 1) w1.heap.size nilS nilS [] st0 := by rw [← hW4]; exact pst_start w1
  have hB4 : Bx W4 w.heap.size := by rw [← hW4]; exact hB1.below ((Below.refl w1.heap.size w1).alloc (Nat.le_refl _) _)
  have hC4 : Below w.heap.size w W4 := by rw [← hW4]; exact hW1.alloc hW1.size _
  have HCELL4 : Hid (∀ (i : Nat) (h : i < ps.length), W4.cell? ⟨b, i, none⟩ = some (.string ps[i])) := fun i h => by
    have h1 := HCELL.out i h
    rw [← hW4]
    exact (World.cell?_alloc_lt _ _ _ (lt_of_cell h1)).trans h1
  rw [hW4, hni]
  clear hni hW4 hB0 hB1 hb1 hW0 hW1
  go_loopw [7] (fun i wr => ∃ (k : Nat) (cv wv : Value) (tv : List Value) (st : St), k ≤ n ∧ i = .int .i64 k ∧ PSt wr (w1.heap.size + 1) w1.heap.size cv wv tv st ∧ Kept (w1.heap.size + 1) w1.heap.size W4 wr ∧ Sz k st ∧ Four k st ∧ (k < 3 → st.ths = []) ∧ runL 0 (ps.map (·.data.toList)).dropLast st0 = runL k ((ps.map (·.data.toList)).dropLast.drop k) st) (fun i _ => ps.length - (intOf i).toNat)
  case atStart => exact ⟨0, nilS, nilS, [], st0, Nat.zero_le _, rfl, hP, Kept.refl _ _ _, ⟨Nat.zero_le _, fun t => by simp [st0]⟩, fun h => by omega, fun _ => rfl, rfl⟩
  case round =>
    obtain ⟨k, cv, wv, tv, st, hk, rfl, hPr, hkr, hz, hf4, hf3, hrun⟩ := hrel
    have HRUN := Hid.out (p := Hid _) hrun
    have HF := Hid.out (p := Hid (Four k st ∧ (k < 3 → st.ths = []))) ⟨hf4, hf3⟩
    clear hrun hf4 hf3
    have hbr := below_kept hC4 hkr (by omega) (by omega)
    have hBr : Bx wr w.heap.size := hB4.kept hkr ⟨by omega, by omega⟩
    by_cases hlt : k < n
    · have hk1 : k < ps.length := by omega
      have h0 : wr.cell? ⟨b, k, none⟩ = some (.string (ps[k]'hk1)) := (World.cell?_of_block (w := W4) (hkr.block b (by omega) (by omega))).trans (HCELL4.out k hk1)
      have hps := (pieces HPS.out hl).2 k hk1
      have HD := Hid.out (p := Hid _) (drop_line (ps := ps) (k := k) (by omega))
      obtain ⟨pc, hpc⟩ : ∃ pc, ps[k]'hk1 = pc := ⟨_, rfl⟩
      rw [hpc] at h0 hps
      have HPC : Hid (ps[k]'hk1 = pc) := hpc
      clear hpc
      cases hst : stepL k pc.data.toList st with
      | none =>
        have HST : Hid (stepL k pc.data.toList st = none) := hst
        clear hst
        go_wp2_with (first | (go_at_call 13; refine (put_any (w1.heap.size + 1) w1.heap.size k (by omega) pc hps _ cv wv tv st hPr hz HF.out.1).mono ?_; rintro e w5 ⟨hk5, hL⟩; rw [HST.out] at hL; obtain rfl := hL; have hB5 := hBr.kept hk5 ⟨by omega, by omega⟩; have p0 := hB5.p0; have p1 := hB5.p1; have p2 := hB5.p2; have p3 := hB5.p3; have r0 := hB5.r0; have r1 := hB5.r1; have r2 := hB5.r2; have pf := hB5.pf; have rf := hB5.rf; clear hB5))
        have hq : parseL s.data.toList = (st0, (5, 0, (k : Int))) := by
          have hr : readL s.data.toList = .inl k := by
            unfold readL
            rw [← HPS.out, HRUN.out, HD.out, HPC.out, runL, HST.out]
          unfold parseL
          rw [if_neg HLS.out, hr]
        have hb5 := below_kept hC4 (hkr.trans hk5) (by omega) (by omega)
        refine bodyPost_ret (v := .tuple #[.agg #[nilS, nilS, .int .i64 0, .int .i64 0], ints3 5 0 k]) (by simp [results, Tryd.results6, go_sem, p0, p1, p2, p3, r0, r1, r2]) rfl ⟨?_, ?_⟩
        · unfold ParseQ
          rw [hq]
          exact ⟨nilS, nilS, [], w.heap.size, Nat.le_refl _, rfl, built_start _ _⟩
        · exact ((((((hb5.setCell (Nat.le_refl _) _).setCell (Nat.le_refl _) _).setCell (Nat.le_refl _) _).setCell (Nat.le_refl _) _).setCell (Nat.le_succ _) _).setCell (Nat.le_succ _) _).setCell (Nat.le_succ _) _
      | some st' =>
        have HST : Hid (stepL k pc.data.toList st = some st') := hst
        clear hst
        go_wp2_with (first | (go_at_call 13; refine (put_any (w1.heap.size + 1) w1.heap.size k (by omega) pc hps _ cv wv tv st hPr hz HF.out.1).mono ?_; rintro e w5 ⟨hk5, hL⟩; rw [HST.out] at hL; obtain ⟨rfl, cv5, wv5, tv5, hP5⟩ := hL))
        go_roundw
        case rel =>
          have h4 := HF.out.1.step HF.out.2 HST.out
          refine ⟨k + 1, cv5, wv5, tv5, st', by omega, by go_num, hP5, hkr.trans hk5, hz.step HST.out, h4.1, h4.2, ?_⟩
          rw [HRUN.out, HD.out, HPC.out, runL, HST.out]
        case measure => simp [intOf]; omega
    · have hkn : k = n := by omega
      subst hkn
      have HR : Hid (runL 0 (ps.map (·.data.toList)).dropLast st0 = .inr st) := by
        show _ = _
        rw [HRUN.out, List.drop_of_length_le (by simp; omega), runL]
      have HLEN : Hid ((cutL 10 s.data.toList).length - 1 = k) := by
        show _ = _
        rw [← HPS.out]; simp; omega
      have hkp : k < ps.length := by omega
      have h0 : wr.cell? ⟨b, k, none⟩ = some (.string (ps[k]'hkp)) := (World.cell?_of_block (w := W4) (hkr.block b (by omega) (by omega))).trans (HCELL4.out k hkp)
      have HGL : Hid ((cutL 10 s.data.toList).getLast? = some (ps[k]'hkp).data.toList) := by
        show _ = _
        rw [← HPS.out, List.getLast?_eq_getElem?]
        simp [← hn]
      obtain ⟨pc, hpc⟩ : ∃ pc, ps[k]'hkp = pc := ⟨_, rfl⟩
      rw [hpc] at h0
      have HPC : Hid (ps[k]'hkp = pc) := hpc
      clear hpc HRUN HF
      by_cases he : pc.data.toList = []
      · obtain rfl := str_of he
        by_cases h4 : k < 4
        · have hi4 : (k : Int) < 4 := by omega
          have hq : parseL s.data.toList = (st0, (5, 0, (k : Int))) := by
            have hr : readL s.data.toList = .inl k := by
              unfold readL
              rw [← HPS.out, HR.out, HPS.out, HLEN.out]
              simp [h4]
            unfold parseL
            rw [if_neg HLS.out, hr]
          have HQ := Hid.out (p := Hid _) hq
          clear hq
          have p0 := hBr.p0
          have p1 := hBr.p1
          have p2 := hBr.p2
          have p3 := hBr.p3
          have r0 := hBr.r0
          have r1 := hBr.r1
          have r2 := hBr.r2
          have pf := hBr.pf
          have rf := hBr.rf
          go_wp2
          refine bodyPost_ret (v := .tuple #[.agg #[nilS, nilS, .int .i64 0, .int .i64 0], ints3 5 0 k]) (by simp [results, Tryd.results6, go_sem, p0, p1, p2, p3, r0, r1, r2]) rfl ⟨?_, ?_⟩
          · unfold ParseQ
            rw [HQ.out]
            exact ⟨nilS, nilS, [], w.heap.size, Nat.le_refl _, rfl, built_start _ _⟩
          · exact ((((((hbr.setCell (Nat.le_refl _) _).setCell (Nat.le_refl _) _).setCell (Nat.le_refl _) _).setCell (Nat.le_refl _) _).setCell (Nat.le_succ _) _).setCell (Nat.le_succ _) _).setCell (Nat.le_succ _) _
        · have hi4 : ¬ (k : Int) < 4 := by omega
          have hr : readL s.data.toList = .inr st := by
            unfold readL
            rw [← HPS.out, HR.out, HPS.out, HLEN.out, HGL.out, HPC.out]
            simp [h4]
          obtain ⟨x, y, z, hc⟩ : ∃ x y z, chkS st = (x, y, z) := ⟨_, _, _, rfl⟩
          have HC : Hid (chkS st = (x, y, z)) := hc
          have HSZ := Hid.out (p := Hid _) (readL_sz (by have := HLS.out; omega) hr)
          obtain ⟨ca, cc, rfl⟩ := owns_slice hPr.built.code
          obtain ⟨wa, wc, rfl⟩ := owns_slice hPr.built.words
          have c0 := hPr.c0
          have c1 := hPr.c1
          have c2 := hPr.c2
          have c3 := hPr.c3
          cases hx0 : (x != 0) with
          | false =>
            have hq : parseL s.data.toList = (st, (0, 0, 0)) := by
              unfold parseL
              rw [if_neg HLS.out, hr]
              show (if (chkS st).1 = 0 then _ else _) = _
              rw [HC.out, if_pos (by simpa using hx0)]
            have HQ := Hid.out (p := Hid _) hq
            clear hq hr hc
            go_wp2_with (first | (go_at_call 14; refine (rcheck_any ca _ cc wa _ wc st.lk st.rg _ _ _ _ x y z HC _ (hPr.built.pin HSZ.out.n HSZ.out.t (Nat.le_refl _))).mono ?_; rintro e w2 ⟨rfl, hb2⟩; have hBa := fun o => hBr.below (hb2.alloc hb2.size o); have q0 := fun o => ((hb2.alloc hb2.size o).cell (lt_of_cell c0)).trans c0; have q1 := fun o => ((hb2.alloc hb2.size o).cell (lt_of_cell c1)).trans c1; have q2 := fun o => ((hb2.alloc hb2.size o).cell (lt_of_cell c2)).trans c2; have q3 := fun o => ((hb2.alloc hb2.size o).cell (lt_of_cell c3)).trans c3; have p0 := fun o => (hBa o).p0; have p1 := fun o => (hBa o).p1; have p2 := fun o => (hBa o).p2; have p3 := fun o => (hBa o).p3; have r0 := fun o => (hBa o).r0; have r1 := fun o => (hBa o).r1; have r2 := fun o => (hBa o).r2; have pf := fun o => (hBa o).pf; have rf := fun o => (hBa o).rf; have hs2 := hb2.size; clear hBa))
            have hb3 := hbr.trans (hb2.mono hbr.size)
            refine bodyPost_ret (v := .tuple #[.agg #[.slice ca st.ths.length cc, .slice wa st.words.length wc, .int .i64 st.lk, .int .i64 st.rg], ints3 0 0 0]) (by simp [results, Tryd.results6, go_sem, p0, p1, p2, p3, r0, r1, r2]) rfl ⟨?_, ?_⟩
            · unfold ParseQ
              rw [HQ.out]
              refine ⟨_, _, tv, w1.heap.size + 1, by omega, rfl, ?_⟩
              have hb := (hPr.built.below hb2).below ((Below.refl w2.heap.size w2).alloc (Nat.le_refl _) (.cells #[.int .i64 x, .int .i64 y, .int .i64 z] 28))
              exact ((((((hb.store (show w.heap.size < _ by omega) _).store (show w.heap.size < _ by omega) _).store (show w.heap.size < _ by omega) _).store (show w.heap.size < _ by omega) _).store (show w.heap.size + 1 < _ by omega) _).store (show w.heap.size + 1 < _ by omega) _).store (show w.heap.size + 1 < _ by omega) _
            · exact (((((((hb3.alloc hb3.size _).setCell (Nat.le_refl _) _).setCell (Nat.le_refl _) _).setCell (Nat.le_refl _) _).setCell (Nat.le_refl _) _).setCell (Nat.le_succ _) _).setCell (Nat.le_succ _) _).setCell (Nat.le_succ _) _
          | true =>
            have hq : parseL s.data.toList = (st0, (x, y, z)) := by
              unfold parseL
              rw [if_neg HLS.out, hr]
              show (if (chkS st).1 = 0 then _ else _) = _
              rw [HC.out, if_neg (by simpa using hx0)]
            have HQ := Hid.out (p := Hid _) hq
            clear hq hr hc
            go_wp2_with (first | (go_at_call 14; refine (rcheck_any ca _ cc wa _ wc st.lk st.rg _ _ _ _ x y z HC _ (hPr.built.pin HSZ.out.n HSZ.out.t (Nat.le_refl _))).mono ?_; rintro e w2 ⟨rfl, hb2⟩; have hBa := fun o => hBr.below (hb2.alloc hb2.size o); have p0 := fun o => (hBa o).p0; have p1 := fun o => (hBa o).p1; have p2 := fun o => (hBa o).p2; have p3 := fun o => (hBa o).p3; have r0 := fun o => (hBa o).r0; have r1 := fun o => (hBa o).r1; have r2 := fun o => (hBa o).r2; have pf := fun o => (hBa o).pf; have rf := fun o => (hBa o).rf; have hs2 := hb2.size; have hltB := hBr.lt; clear hBa))
            have hn1 : ¬ w2.heap.size = w.heap.size := by omega
            have hn2 : ¬ w.heap.size = w2.heap.size := by omega
            have hn3 : ¬ w2.heap.size = w.heap.size + 1 := by omega
            have hn4 : ¬ w.heap.size + 1 = w2.heap.size := by omega
            go_region
            all_goals go_wp2
            have hb3 := hbr.trans (hb2.mono hbr.size)
            refine bodyPost_ret (v := .tuple #[.agg #[nilS, nilS, .int .i64 0, .int .i64 0], ints3 x y z]) (by simp [results, Tryd.results6, go_sem, p0, p1, p2, p3, r0, r1, r2]) rfl ⟨?_, ?_⟩
            · unfold ParseQ
              rw [HQ.out]
              exact ⟨nilS, nilS, [], w.heap.size, Nat.le_refl _, rfl, built_start _ _⟩
            · exact ((((((((hb3.alloc hb3.size _).setCell (Nat.le_refl _) _).setCell (Nat.le_refl _) _).setCell (Nat.le_refl _) _).setCell (Nat.le_refl _) _).setCell (Nat.le_succ _) _).setCell (Nat.le_succ _) _).setCell (Nat.le_succ _) _).drew
      · have hne : (pc.toList == []) = false := by rw [Lib.toList_data]; simpa using he
        have HE : Hid (¬ pc.data.toList = []) := he
        clear he
        have hq : parseL s.data.toList = (st0, (5, 0, (k : Int))) := by
          have hr : readL s.data.toList = .inl k := by
            unfold readL
            rw [← HPS.out, HR.out, HPS.out, HLEN.out, HGL.out, HPC.out]
            simp [HE.out]
          unfold parseL
          rw [if_neg HLS.out, hr]
        have HQ := Hid.out (p := Hid _) hq
        clear hq
        have p0 := hBr.p0
        have p1 := hBr.p1
        have p2 := hBr.p2
        have p3 := hBr.p3
        have r0 := hBr.r0
        have r1 := hBr.r1
        have r2 := hBr.r2
        have pf := hBr.pf
        have rf := hBr.rf
        go_wp2
        refine bodyPost_ret (v := .tuple #[.agg #[nilS, nilS, .int .i64 0, .int .i64 0], ints3 5 0 k]) (by simp [results, Tryd.results6, go_sem, p0, p1, p2, p3, r0, r1, r2]) rfl ⟨?_, ?_⟩
        · unfold ParseQ
          rw [HQ.out]
          exact ⟨nilS, nilS, [], w.heap.size, Nat.le_refl _, rfl, built_start _ _⟩
        · exact ((((((hbr.setCell (Nat.le_refl _) _).setCell (Nat.le_refl _) _).setCell (Nat.le_refl _) _).setCell (Nat.le_refl _) _).setCell (Nat.le_succ _) _).setCell (Nat.le_succ _) _).setCell (Nat.le_succ _) _

end Go.Proofs.YthbebnegmenejaaDoor
