/-
  The document's run.
-/
import Derived.Test.YtipdnfpomdcenabRRunP
namespace Go.Proofs.Ytipdnfpomdcenab
open Go.RowKit

set_option maxRecDepth 100000 in
set_option maxHeartbeats 6400000 in
theorem rrun_any (w : World) (ca : Option Addr) (n cc : Nat) (wa : Option Addr) (wc lk rg : Nat) (mode : Int) (words script : List Int) (sa : Option Addr) (sc : Nat) (A : Nat → Option Addr) (L C : Nat → Nat) (X : Nat → Nat → Nat → Int) (hn0 : 0 < n)
    (hw : SIs w wa words) (hsc : SIs w sa script) (hsl : script.length ≤ 9223372036854775807) (hc : COk n L X words.length lk rg) (hp : PIn w ca n A L C X) (hdo : DoOk ⟨ca, n, cc, wa, words.length, wc, lk, rg, mode⟩ A L C X words.length lk rg) :
    Calls Try.prog 9 #[prgV ca n cc wa words.length wc lk rg, .int .i64 mode, .slice sa script.length sc] w (TraceQ w (runX L X mode 5000 (beginX n words lk rg) 0 script)) := by
  obtain ⟨R, hR⟩ : ∃ R, runX L X mode 5000 (beginX n words lk rg) 0 script = R := ⟨_, rfl⟩
  rw [hR]
  obtain ⟨P, hP⟩ : ∃ P : Pg, P = ⟨ca, n, cc, wa, words.length, wc, lk, rg, mode⟩ := ⟨_, rfl⟩
  rw [← hP] at hdo
  obtain ⟨PC, hPC⟩ : ∃ o : Obj, o = .cells #[.slice ca n cc, .slice wa words.length wc, .int .i64 (lk : Int), .int .i64 (rg : Int)] 25 := ⟨_, rfl⟩
  obtain ⟨RC, hRC⟩ : ∃ o : Obj, o = .cells #[nilV, .int .i64 0, nilV, .int .i64 0] 28 := ⟨_, rfl⟩
  have hb2 : Below w.heap.size w ((w.alloc PC).alloc RC) := ((Below.refl _ _).alloc (Nat.le_refl _) _).alloc (by simp) _
  have hbeg := begin_any ((w.alloc PC).alloc RC) ca n cc wa wc lk rg mode words (hw.below hb2) hc.n4 hc.m64 hc.lk4 hc.rg0 hc.rg2
  have hsz : ((w.alloc PC).alloc RC).heap.size = w.heap.size + 2 := by simp
  rw [hsz, ← hP, hPC, hRC] at hbeg
  have hok : SOk P.n L words.length lk rg P.mode (beginX n words lk rg) := by rw [hP]; exact begin_ok
  have hcP : COk P.n L X words.length lk rg := by rw [hP]; exact hc
  have hpP : PIn ((w.alloc PC).alloc RC) P.ca P.n A L C X := by rw [hP]; exact hp.below hb2
  have hscP : SIs ((w.alloc PC).alloc RC) sa script := hsc.below hb2
  have hn0P : 0 < P.n := by rw [hP]; exact hn0
  have hmP : P.mode = mode := by rw [hP]
  rw [hRC] at hpP hscP hb2 hsz
  have HLOW : Hid (∀ W, Below (w.heap.size + 2) ((w.alloc PC).alloc (.cells #[nilV, .int .i64 0, nilV, .int .i64 0] 28)) W → Below w.heap.size w W) := fun W h => hb2.trans (h.mono (by omega))
  have HSC : Hid (∀ W, Below (w.heap.size + 2) ((w.alloc PC).alloc (.cells #[nilV, .int .i64 0, nilV, .int .i64 0] 28)) W → SIs W sa script) := fun W h => hscP.below (by rw [hsz]; exact h)
  have HSZ : Hid (∀ W, Below (w.heap.size + 2) ((w.alloc PC).alloc (.cells #[nilV, .int .i64 0, nilV, .int .i64 0] 28)) W → w.heap.size + 2 ≤ W.heap.size) := fun W h => by have := h.size; rw [hsz] at this; exact this
  obtain ⟨m, hm⟩ : ∃ m, words.length = m := ⟨_, rfl⟩
  rw [hm] at hok hcP hdo hbeg hPC ⊢
  have HPC : Hid (PC = .cells #[.slice ca n cc, .slice wa m wc, .int .i64 (lk : Int), .int .i64 (rg : Int)] 25) := hPC
  have HE : Hid (∀ wr (sb : Nat) v s k, Rnd ((w.alloc PC).alloc (.cells #[nilV, .int .i64 0, nilV, .int .i64 0] 28)) wr (w.heap.size + 2) sb P v s A L C X m lk rg k → Calls Try.prog 22 #[.pointer (some ⟨sb, 0, none⟩)] wr fun e w' => e = .returned (.bool (endedX L s)) ∧ Below wr.heap.size wr w') := fun wr sb v s k h =>
    ended_any wr _ sb P v s A L C X m lk rg hn0P h.D h.ok hcP h.prog
  have HM : Hid (∀ wr (sb : Nat) v s k, Rnd ((w.alloc PC).alloc (.cells #[nilV, .int .i64 0, nilV, .int .i64 0] 28)) wr (w.heap.size + 2) sb P v s A L C X m lk rg k → Calls Try.prog 23 #[.pointer (some ⟨sb, 0, none⟩)] wr fun e w' => ∃ a len c, e = .returned (.slice a len c) ∧ IsI w' wr.heap.size a len c (movesX L X mode s) ∧ Below wr.heap.size wr w') := fun wr sb v s k h => by
    have := moves_any wr _ sb P v s A L C X m lk rg hn0P h.D h.ok hcP h.prog
    rwa [hmP] at this
  have HD : Hid (∀ wr (sb : Nat) v s k mv, k ≤ 5000 → Rnd ((w.alloc PC).alloc (.cells #[nilV, .int .i64 0, nilV, .int .i64 0] 28)) wr (w.heap.size + 2) sb P v s A L C X m lk rg k → mv ∈ movesX L X mode s → Calls Try.prog 24 #[.pointer (some ⟨sb, 0, none⟩), .int .i64 mv] wr fun e w' => e = .returned (.tuple #[]) ∧ ∃ v', Rnd ((w.alloc PC).alloc (.cells #[nilV, .int .i64 0, nilV, .int .i64 0] 28)) w' (w.heap.size + 2) sb P v' (doX X mode s mv.toNat) A L C X m lk rg (k + 1)) := fun wr sb v s k mv hk h hmv => by
    have hB := HSZ.out _ h.low
    obtain ⟨h1, h2, h3⟩ := hdo wr _ sb v s mv h.D hB h.ok h.prog (by have := h.pr; omega) (by rw [hmP]; exact hmv)
    rw [hmP] at h1 h2 h3
    refine h1.mono fun e w' ⟨he, v', hD', hM'⟩ => ⟨he, v', hD', by rw [hmP]; exact h2, by have := h.pr; omega, h.low.trans (hM'.below hB h.D.fam.low), ?_⟩
    have hbb : Below (w.heap.size + 2) wr w' := hM'.below hB h.D.fam.low
    exact hpP.below (by rw [hsz]; exact h.low.trans hbb)
  have HR : Hid (runX L X mode 5000 (beginX n words lk rg) 0 script = R) := hR
  have HN4 : Hid (P.n ≤ 4) := hcP.n4
  clear hdo hcP hscP hn0P hmP hR hP hPC hRC hw hsc hc hp hb2 hsz hn0 hm
  obtain ⟨slen, hslen⟩ : ∃ x, script.length = x := ⟨_, rfl⟩
  have HSL : Hid (script.length = slen) := hslen
  rw [hslen] at hsl ⊢
  clear hslen
  go_enter Try.func9, Try.ntmps9
  go_wp2_with fail
  refine hbeg.mono ?_
  rintro e w1 ⟨sb, v, rfl, hD, hb1⟩
  rw [← HPC.out] at hb1
  have HST : Hid (Rnd ((w.alloc PC).alloc (.cells #[nilV, .int .i64 0, nilV, .int .i64 0] 28)) w1 (w.heap.size + 2) sb P v (beginX n words lk rg) A L C X m lk rg 0) := ⟨hD, hok, by simp [beginX], hb1, hpP.below (by rw [World.size_alloc, World.size_alloc]; exact hb1)⟩
  clear hD hok hb1 hpP hbeg
  go_wp2_with fail
  go_loopw [8, 9, 10] (fun st nx sta wr => ∃ (k q : Nat) (v : Rl → Value) (s : Sx), k ≤ 5000 ∧ q ≤ slen ∧ st = .int .i64 k ∧ nx = .int .i64 q ∧ sta = .int .i64 0 ∧ Hid (Rnd ((w.alloc PC).alloc (.cells #[nilV, .int .i64 0, nilV, .int .i64 0] 28)) wr (w.heap.size + 2) sb P v s A L C X m lk rg k) ∧ Hid (runX L X mode (5000 - k) s k (script.drop q) = R)) (fun st _ _ _ => 5000 - (intOf st).toNat)
  case atStart => exact ⟨0, 0, v, _, by omega, Nat.zero_le _, rfl, rfl, rfl, HST, by show _ = _; rw [List.drop_zero]; exact HR.out⟩
  case round =>
    obtain ⟨k, q, v, s, hk, hq, rfl, rfl, rfl, HS, HRK⟩ := hrel
    clear HST HR
    have HC1 := Hid.out (p := Hid _) (HE.out _ _ _ _ _ HS.out)
    go_wp2_with fail
    refine Calls.mono HC1.out ?_
    rintro e w2 ⟨rfl, hb2⟩
    have HW := Hid.out (p := Hid _) (HS.out.below (HSZ.out _ HS.out.low) hb2)
    clear HC1 hb2
    cases hend : endedX L s with
    | true =>
      have HRR : Hid (R = (s, 0, k)) := by
        show _ = _
        rw [← HRK.out]; exact run_ended hend
      clear hend HS HRK
      have hs8 := HW.out.D.c8
      have hs6 := HW.out.D.c6
      obtain ⟨pa, pcp, hpv⟩ := HW.out.D.printsV
      obtain ⟨ga, gcp, hgv⟩ := HW.out.D.wordsV
      rw [hpv] at hs8
      rw [hgv] at hs6
      obtain ⟨⟨x0, x1, x2, x3⟩, xf⟩ := trace_cells HW.out.low
      have hsbB : w.heap.size + 2 ≤ sb := HW.out.D.fam.low _ _ HW.out.D.bblk
      have hne1 : ¬ sb = w.heap.size + 1 := by omega
      have hne2 : ¬ w.heap.size + 1 = sb := by omega
      obtain ⟨pl, hpl⟩ : ∃ x, s.prints.length = x := ⟨_, rfl⟩
      obtain ⟨gl, hgl⟩ : ∃ x, s.words.length = x := ⟨_, rfl⟩
      rw [hpl] at hs8 hpv
      rw [hgl] at hs6 hgv
      have HPV : Hid (v .prints = .slice pa pl pcp ∧ v .words = .slice ga gl gcp) := ⟨hpv, hgv⟩
      clear hpv hgv hpl hgl
      go_wp2
      refine region_tail 11 (by kernel_rfl) (by kernel_rfl) ?_
      simp only [List.take_succ_cons, List.take_zero, List.drop_succ_cons, List.drop_zero]
      repeat still_step
      refine wpStill_nil ?_
      go_wp2
      refine bodyPost_ret (v := .agg #[.slice pa pl pcp, .int .i64 0, .slice ga gl gcp, .int .i64 (k : Int)]) (by simp [results, Try.results9, go_sem, cell_set, x0, x1, x2, x3]) rfl ?_
      refine ⟨pa, pl, pcp, ga, gl, gcp, ?_, ?_⟩
      · first | (rw [HRR.out]; done) | (rw [HRR.out]; rfl)
      · rw [HRR.out]
        exact trace_fin (x0 := .slice pa pl pcp) (x1 := .int .i64 0) (x2 := .slice ga gl gcp) (x3 := .int .i64 (k : Int)) HW.out.D (r := w.heap.size + 1) (by omega) (by omega) (HLOW.out _ HW.out.low) (by rfl) (by rfl) (by rfl) (by rfl) HPV.out.1 HPV.out.2
    | false =>
      have HNE : Hid (endedX L s = false) := hend
      clear hend HS
      have HC2 := Hid.out (p := Hid _) (HM.out _ _ _ _ _ HW.out)
      have HW2 := HW
      clear HW
      go_wp2_with fail
      refine Calls.mono HC2.out ?_
      rintro e w3 ⟨la, ll, lc, rfl, hI, hb3⟩
      have HW := Hid.out (p := Hid _) (HW2.out.below (HSZ.out _ HW2.out.low) hb3)
      have hlen := hI.is
      have HI : Hid (∀ i, i < ll → ∃ lb, la = some ⟨lb, 0, none⟩ ∧ w3.cell? ⟨lb, i, none⟩ = some (.int .i64 ((movesX L X mode s).getD i 0))) := fun i hi => by
        obtain ⟨lb, lcp, h1, h2, _, _⟩ := fam_block hI.own (by omega)
        simp only [Value.slice.injEq] at h1
        exact ⟨lb, h1.1, fam_cell hI.own h2 (intsV_at (by omega))⟩
      have HLL : Hid ((movesX L X mode s).length = ll) := hlen
      have hll16 : ll ≤ 16 := by
        have h1 := mvsT_len L X mode s (fun t ht => HW.out.ok.wlen t (by rw [← HW.out.ok.ths]; exact ht)) s.ths.length (Nat.le_refl _)
        rw [mvsT_all, HLL.out] at h1
        have h2 := HW.out.ok.ths
        have h3 := HN4.out
        omega
      clear HC2 hb3 HW2 hI hlen
      by_cases hl0 : ll = 0
      · have HRR : Hid (R = (s, 2, k)) := by
          show _ = _
          rw [← HRK.out]; exact run_stuck HNE.out (List.eq_nil_of_length_eq_zero (by rw [HLL.out]; exact hl0))
        subst hl0
        clear HRK HI
        have hs8 := HW.out.D.c8
        have hs6 := HW.out.D.c6
        obtain ⟨pa, pcp, hpv⟩ := HW.out.D.printsV
        obtain ⟨ga, gcp, hgv⟩ := HW.out.D.wordsV
        rw [hpv] at hs8
        rw [hgv] at hs6
        obtain ⟨⟨x0, x1, x2, x3⟩, xf⟩ := trace_cells HW.out.low
        have hsbB : w.heap.size + 2 ≤ sb := HW.out.D.fam.low _ _ HW.out.D.bblk
        have hne1 : ¬ sb = w.heap.size + 1 := by omega
        have hne2 : ¬ w.heap.size + 1 = sb := by omega
        obtain ⟨pl, hpl⟩ : ∃ x, s.prints.length = x := ⟨_, rfl⟩
        obtain ⟨gl, hgl⟩ : ∃ x, s.words.length = x := ⟨_, rfl⟩
        rw [hpl] at hs8 hpv
        rw [hgl] at hs6 hgv
        have HPV : Hid (v .prints = .slice pa pl pcp ∧ v .words = .slice ga gl gcp) := ⟨hpv, hgv⟩
        clear hpv hgv hpl hgl
        go_wp2
        refine region_tail 11 (by kernel_rfl) (by kernel_rfl) ?_
        simp only [List.take_succ_cons, List.take_zero, List.drop_succ_cons, List.drop_zero]
        repeat still_step
        refine wpStill_nil ?_
        go_wp2
        refine bodyPost_ret (v := .agg #[.slice pa pl pcp, .int .i64 2, .slice ga gl gcp, .int .i64 (k : Int)]) (by simp [results, Try.results9, go_sem, cell_set, x0, x1, x2, x3]) rfl ?_
        refine ⟨pa, pl, pcp, ga, gl, gcp, ?_, ?_⟩
        · first | (rw [HRR.out]; done) | (rw [HRR.out]; rfl)
        · rw [HRR.out]
          exact trace_fin (x0 := .slice pa pl pcp) (x1 := .int .i64 2) (x2 := .slice ga gl gcp) (x3 := .int .i64 (k : Int)) HW.out.D (r := w.heap.size + 1) (by omega) (by omega) (HLOW.out _ HW.out.low) (by rfl) (by rfl) (by rfl) (by rfl) HPV.out.1 HPV.out.2
      · have HNIL : Hid (movesX L X mode s ≠ []) := fun h => hl0 (by rw [← HLL.out, h]; rfl)
        by_cases hk5 : k = 5000
        · subst hk5
          have HRR : Hid (R = (s, 3, 5000)) := by
            show _ = _
            rw [← HRK.out]; exact run_out HNE.out HNIL.out
          clear HRK HI
          have hs8 := HW.out.D.c8
          have hs6 := HW.out.D.c6
          obtain ⟨pa, pcp, hpv⟩ := HW.out.D.printsV
          obtain ⟨ga, gcp, hgv⟩ := HW.out.D.wordsV
          rw [hpv] at hs8
          rw [hgv] at hs6
          obtain ⟨⟨x0, x1, x2, x3⟩, xf⟩ := trace_cells HW.out.low
          have hsbB : w.heap.size + 2 ≤ sb := HW.out.D.fam.low _ _ HW.out.D.bblk
          have hne1 : ¬ sb = w.heap.size + 1 := by omega
          have hne2 : ¬ w.heap.size + 1 = sb := by omega
          obtain ⟨pl, hpl⟩ : ∃ x, s.prints.length = x := ⟨_, rfl⟩
          obtain ⟨gl, hgl⟩ : ∃ x, s.words.length = x := ⟨_, rfl⟩
          rw [hpl] at hs8 hpv
          rw [hgl] at hs6 hgv
          have HPV : Hid (v .prints = .slice pa pl pcp ∧ v .words = .slice ga gl gcp) := ⟨hpv, hgv⟩
          clear hpv hgv hpl hgl
          go_wp2
          refine region_tail 11 (by kernel_rfl) (by kernel_rfl) ?_
          simp only [List.take_succ_cons, List.take_zero, List.drop_succ_cons, List.drop_zero]
          repeat still_step
          refine wpStill_nil ?_
          go_wp2
          refine bodyPost_ret (v := .agg #[.slice pa pl pcp, .int .i64 3, .slice ga gl gcp, .int .i64 5000]) (by simp [results, Try.results9, go_sem, cell_set, x0, x1, x2, x3]) rfl ?_
          refine ⟨pa, pl, pcp, ga, gl, gcp, ?_, ?_⟩
          · first | (rw [HRR.out]; done) | (rw [HRR.out]; rfl)
          · rw [HRR.out]
            exact trace_fin (x0 := .slice pa pl pcp) (x1 := .int .i64 3) (x2 := .slice ga gl gcp) (x3 := .int .i64 5000) HW.out.D (r := w.heap.size + 1) (by omega) (by omega) (HLOW.out _ HW.out.low) (by rfl) (by rfl) (by rfl) (by rfl) HPV.out.1 HPV.out.2
        · have hk4 : k < 5000 := by omega
          have hll : 0 < ll := by omega
          have HSTEP : Hid (∀ i sc', pickX ll (script.drop q) = (i, sc') → R = (if (doX X mode s ((movesX L X mode s).getD i 0).toNat).fell then (doX X mode s ((movesX L X mode s).getD i 0).toNat, 1, k + 1) else runX L X mode (5000 - (k + 1)) (doX X mode s ((movesX L X mode s).getD i 0).toNat) (k + 1) sc')) := fun i sc' h => by
            rw [← HRK.out, show 5000 - k = 5000 - (k + 1) + 1 by omega, run_step HNE.out HNIL.out, HLL.out, h]
          have HMEM : Hid (∀ i, i < ll → (movesX L X mode s).getD i 0 ∈ movesX L X mode s) := fun i hi => by
            have h1 : i < (movesX L X mode s).length := by rw [HLL.out]; exact hi
            have e : (movesX L X mode s).getD i 0 = (movesX L X mode s)[i] := by simp [List.getD, List.getElem?_eq_getElem h1]
            rw [e]; exact List.getElem_mem _
          clear HRK HNE HNIL
          by_cases h1 : ll = 1
          · subst h1
            obtain ⟨lb, rfl, hcell⟩ := HI.out 0 (by omega)
            have HGO := Hid.out (p := Hid _) (HSTEP.out 0 (script.drop q) (by simp [pickX]))
            have HIN := Hid.out (p := Hid _) (HMEM.out 0 (by omega))
            obtain ⟨mv, emv⟩ : ∃ x, (movesX L X mode s).getD 0 0 = x := ⟨_, rfl⟩
            rw [emv] at hcell HGO HIN
            clear emv HSTEP HMEM HI HLL
            go_wp2_with fail
            refine Calls.mono (HD.out _ _ _ _ _ _ hk HW.out HIN.out) ?_
            rintro e w4 ⟨rfl, v4, hW4⟩
            obtain ⟨s4, es4⟩ : ∃ x, doX X mode s mv.toNat = x := ⟨_, rfl⟩
            rw [es4] at hW4 HGO
            have HW' := HW
            clear HW es4
            have HW := Hid.out (p := Hid _) hW4
            have c9 := hW4.D.c9
            clear hW4 HW'
            cases hf : s4.fell with
            | true =>
              rw [hf] at c9
              have HRR : Hid (R = (s4, 1, k + 1)) := by
                show _ = _
                rw [HGO.out, hf]; rfl
              clear hf HGO
              have hs8 := HW.out.D.c8
              have hs6 := HW.out.D.c6
              obtain ⟨pa, pcp, hpv⟩ := HW.out.D.printsV
              obtain ⟨ga, gcp, hgv⟩ := HW.out.D.wordsV
              rw [hpv] at hs8
              rw [hgv] at hs6
              obtain ⟨⟨x0, x1, x2, x3⟩, xf⟩ := trace_cells HW.out.low
              have hsbB : w.heap.size + 2 ≤ sb := HW.out.D.fam.low _ _ HW.out.D.bblk
              have hne1 : ¬ sb = w.heap.size + 1 := by omega
              have hne2 : ¬ w.heap.size + 1 = sb := by omega
              obtain ⟨pl, hpl⟩ : ∃ x, s4.prints.length = x := ⟨_, rfl⟩
              obtain ⟨gl, hgl⟩ : ∃ x, s4.words.length = x := ⟨_, rfl⟩
              rw [hpl] at hs8 hpv
              rw [hgl] at hs6 hgv
              have HPV : Hid (v4 .prints = .slice pa pl pcp ∧ v4 .words = .slice ga gl gcp) := ⟨hpv, hgv⟩
              clear hpv hgv hpl hgl
              go_wp2
              refine region_tail 11 (by kernel_rfl) (by kernel_rfl) ?_
              simp only [List.take_succ_cons, List.take_zero, List.drop_succ_cons, List.drop_zero]
              repeat still_step
              refine wpStill_nil ?_
              go_wp2
              refine bodyPost_ret (v := .agg #[.slice pa pl pcp, .int .i64 1, .slice ga gl gcp, .int .i64 ((k : Int) + 1)]) (by simp [results, Try.results9, go_sem, cell_set, x0, x1, x2, x3]) rfl ?_
              refine ⟨pa, pl, pcp, ga, gl, gcp, ?_, ?_⟩
              · first | (rw [HRR.out]; done) | (rw [HRR.out]; rfl)
              · rw [HRR.out]
                exact trace_fin (x0 := .slice pa pl pcp) (x1 := .int .i64 1) (x2 := .slice ga gl gcp) (x3 := .int .i64 ((k : Int) + 1)) HW.out.D (r := w.heap.size + 1) (by omega) (by omega) (HLOW.out _ HW.out.low) (by rfl) (by rfl) (by rfl) (by rfl) HPV.out.1 HPV.out.2
            | false =>
              rw [hf] at c9
              have HRR : Hid (runX L X mode (5000 - (k + 1)) s4 (k + 1) (script.drop q) = R) := by
                show _ = _
                rw [HGO.out, hf]; rfl
              clear hf HGO
              go_wp2
              go_roundw
              case rel => exact ⟨k + 1, q, v4, s4, by omega, by omega, by go_num, by first | rfl | go_num, rfl, HW, HRR⟩
              case measure => simp [intOf]; omega
          · have h2 : 2 ≤ ll := by omega
            have h2' : (1 : Int) < (ll : Int) := by omega
            by_cases hqs : q < slen
            · obtain ⟨xb, xo, rfl, hxc⟩ := HSC.out _ HW.out.low q (by rw [HSL.out]; exact hqs)
              obtain ⟨x, ex⟩ : ∃ x, script.getD q 0 = x := ⟨_, rfl⟩
              rw [ex] at hxc
              have hdrop : script.drop q = x :: script.drop (q + 1) := by
                have hq' : q < script.length := by rw [HSL.out]; exact hqs
                rw [List.drop_eq_getElem_cons hq', ← ex]
                simp [List.getD, List.getElem?_eq_getElem hq']
              obtain ⟨i, hi⟩ : ∃ i, (x.emod (ll : Int)).toNat = i := ⟨_, rfl⟩
              have hpk : pickX ll (script.drop q) = (i, script.drop (q + 1)) := by
                rw [hdrop, ← hi]
                unfold pickX
                rw [if_neg (by omega)]
              have hil : i < ll := by have := pick_lt ll (script.drop q) hll; rw [hpk] at this; exact this
              have hie : x.emod (ll : Int) = (i : Int) := by
                have h2 := Int.emod_nonneg x (show (ll : Int) ≠ 0 by omega)
                have e : x.emod (ll : Int) = x % (ll : Int) := rfl
                rw [e] at hi ⊢; omega
              have hrp := rem_pick x hll
              rw [hie] at hrp
              obtain ⟨lb, rfl, hcell⟩ := HI.out i hil
              have HGO := Hid.out (p := Hid _) (HSTEP.out i (script.drop (q + 1)) hpk)
              have HIN := Hid.out (p := Hid _) (HMEM.out i hil)
              obtain ⟨mv, emv⟩ : ∃ x, (movesX L X mode s).getD i 0 = x := ⟨_, rfl⟩
              rw [emv] at hcell HGO HIN
              clear emv HSTEP HMEM HI HLL ex hdrop hpk hie hi
              by_cases hneg : x.tmod (ll : Int) < 0
              · rw [if_pos hneg] at hrp
                have htm : x.tmod (ll : Int) = (i : Int) - (ll : Int) := by omega
                have hlt0 : (i : Int) - (ll : Int) < 0 := by omega
                have hsum : (i : Int) - (ll : Int) + (ll : Int) = (i : Int) := by omega
                clear hneg hrp
                go_wp2_with fail
                refine Calls.mono (HD.out _ _ _ _ _ _ hk HW.out HIN.out) ?_
                rintro e w4 ⟨rfl, v4, hW4⟩
                obtain ⟨s4, es4⟩ : ∃ x, doX X mode s mv.toNat = x := ⟨_, rfl⟩
                rw [es4] at hW4 HGO
                have HW' := HW
                clear HW es4
                have HW := Hid.out (p := Hid _) hW4
                have c9 := hW4.D.c9
                clear hW4 HW'
                cases hf : s4.fell with
                | true =>
                  rw [hf] at c9
                  have HRR : Hid (R = (s4, 1, k + 1)) := by
                    show _ = _
                    rw [HGO.out, hf]; rfl
                  clear hf HGO
                  have hs8 := HW.out.D.c8
                  have hs6 := HW.out.D.c6
                  obtain ⟨pa, pcp, hpv⟩ := HW.out.D.printsV
                  obtain ⟨ga, gcp, hgv⟩ := HW.out.D.wordsV
                  rw [hpv] at hs8
                  rw [hgv] at hs6
                  obtain ⟨⟨x0, x1, x2, x3⟩, xf⟩ := trace_cells HW.out.low
                  have hsbB : w.heap.size + 2 ≤ sb := HW.out.D.fam.low _ _ HW.out.D.bblk
                  have hne1 : ¬ sb = w.heap.size + 1 := by omega
                  have hne2 : ¬ w.heap.size + 1 = sb := by omega
                  obtain ⟨pl, hpl⟩ : ∃ x, s4.prints.length = x := ⟨_, rfl⟩
                  obtain ⟨gl, hgl⟩ : ∃ x, s4.words.length = x := ⟨_, rfl⟩
                  rw [hpl] at hs8 hpv
                  rw [hgl] at hs6 hgv
                  have HPV : Hid (v4 .prints = .slice pa pl pcp ∧ v4 .words = .slice ga gl gcp) := ⟨hpv, hgv⟩
                  clear hpv hgv hpl hgl
                  go_wp2
                  refine region_tail 11 (by kernel_rfl) (by kernel_rfl) ?_
                  simp only [List.take_succ_cons, List.take_zero, List.drop_succ_cons, List.drop_zero]
                  repeat still_step
                  refine wpStill_nil ?_
                  go_wp2
                  refine bodyPost_ret (v := .agg #[.slice pa pl pcp, .int .i64 1, .slice ga gl gcp, .int .i64 ((k : Int) + 1)]) (by simp [results, Try.results9, go_sem, cell_set, x0, x1, x2, x3]) rfl ?_
                  refine ⟨pa, pl, pcp, ga, gl, gcp, ?_, ?_⟩
                  · first | (rw [HRR.out]; done) | (rw [HRR.out]; rfl)
                  · rw [HRR.out]
                    exact trace_fin (x0 := .slice pa pl pcp) (x1 := .int .i64 1) (x2 := .slice ga gl gcp) (x3 := .int .i64 ((k : Int) + 1)) HW.out.D (r := w.heap.size + 1) (by omega) (by omega) (HLOW.out _ HW.out.low) (by rfl) (by rfl) (by rfl) (by rfl) HPV.out.1 HPV.out.2
                | false =>
                  rw [hf] at c9
                  have HRR : Hid (runX L X mode (5000 - (k + 1)) s4 (k + 1) (script.drop (q + 1)) = R) := by
                    show _ = _
                    rw [HGO.out, hf]; rfl
                  clear hf HGO
                  go_wp2
                  go_roundw
                  case rel => exact ⟨k + 1, (q + 1), v4, s4, by omega, by omega, by go_num, by first | rfl | go_num, rfl, HW, HRR⟩
                  case measure => simp [intOf]; omega
              · rw [if_neg hneg] at hrp
                clear hneg
                go_wp2_with fail
                refine Calls.mono (HD.out _ _ _ _ _ _ hk HW.out HIN.out) ?_
                rintro e w4 ⟨rfl, v4, hW4⟩
                obtain ⟨s4, es4⟩ : ∃ x, doX X mode s mv.toNat = x := ⟨_, rfl⟩
                rw [es4] at hW4 HGO
                have HW' := HW
                clear HW es4
                have HW := Hid.out (p := Hid _) hW4
                have c9 := hW4.D.c9
                clear hW4 HW'
                cases hf : s4.fell with
                | true =>
                  rw [hf] at c9
                  have HRR : Hid (R = (s4, 1, k + 1)) := by
                    show _ = _
                    rw [HGO.out, hf]; rfl
                  clear hf HGO
                  have hs8 := HW.out.D.c8
                  have hs6 := HW.out.D.c6
                  obtain ⟨pa, pcp, hpv⟩ := HW.out.D.printsV
                  obtain ⟨ga, gcp, hgv⟩ := HW.out.D.wordsV
                  rw [hpv] at hs8
                  rw [hgv] at hs6
                  obtain ⟨⟨x0, x1, x2, x3⟩, xf⟩ := trace_cells HW.out.low
                  have hsbB : w.heap.size + 2 ≤ sb := HW.out.D.fam.low _ _ HW.out.D.bblk
                  have hne1 : ¬ sb = w.heap.size + 1 := by omega
                  have hne2 : ¬ w.heap.size + 1 = sb := by omega
                  obtain ⟨pl, hpl⟩ : ∃ x, s4.prints.length = x := ⟨_, rfl⟩
                  obtain ⟨gl, hgl⟩ : ∃ x, s4.words.length = x := ⟨_, rfl⟩
                  rw [hpl] at hs8 hpv
                  rw [hgl] at hs6 hgv
                  have HPV : Hid (v4 .prints = .slice pa pl pcp ∧ v4 .words = .slice ga gl gcp) := ⟨hpv, hgv⟩
                  clear hpv hgv hpl hgl
                  go_wp2
                  refine region_tail 11 (by kernel_rfl) (by kernel_rfl) ?_
                  simp only [List.take_succ_cons, List.take_zero, List.drop_succ_cons, List.drop_zero]
                  repeat still_step
                  refine wpStill_nil ?_
                  go_wp2
                  refine bodyPost_ret (v := .agg #[.slice pa pl pcp, .int .i64 1, .slice ga gl gcp, .int .i64 ((k : Int) + 1)]) (by simp [results, Try.results9, go_sem, cell_set, x0, x1, x2, x3]) rfl ?_
                  refine ⟨pa, pl, pcp, ga, gl, gcp, ?_, ?_⟩
                  · first | (rw [HRR.out]; done) | (rw [HRR.out]; rfl)
                  · rw [HRR.out]
                    exact trace_fin (x0 := .slice pa pl pcp) (x1 := .int .i64 1) (x2 := .slice ga gl gcp) (x3 := .int .i64 ((k : Int) + 1)) HW.out.D (r := w.heap.size + 1) (by omega) (by omega) (HLOW.out _ HW.out.low) (by rfl) (by rfl) (by rfl) (by rfl) HPV.out.1 HPV.out.2
                | false =>
                  rw [hf] at c9
                  have HRR : Hid (runX L X mode (5000 - (k + 1)) s4 (k + 1) (script.drop (q + 1)) = R) := by
                    show _ = _
                    rw [HGO.out, hf]; rfl
                  clear hf HGO
                  go_wp2
                  go_roundw
                  case rel => exact ⟨k + 1, (q + 1), v4, s4, by omega, by omega, by go_num, by first | rfl | go_num, rfl, HW, HRR⟩
                  case measure => simp [intOf]; omega
            · obtain rfl : q = slen := by omega
              obtain ⟨lb, rfl, hcell⟩ := HI.out 0 (by omega)
              have HGO : Hid (R = (if (doX X mode s ((movesX L X mode s).getD 0 0).toNat).fell then (doX X mode s ((movesX L X mode s).getD 0 0).toNat, 1, k + 1) else runX L X mode (5000 - (k + 1)) (doX X mode s ((movesX L X mode s).getD 0 0).toNat) (k + 1) (script.drop q))) := by
                have hnil : script.drop q = [] := List.drop_of_length_le (by rw [HSL.out]; omega)
                have := HSTEP.out 0 [] (by rw [hnil]; simp [pickX])
                show _ = _
                rw [hnil]; exact this
              have HIN := Hid.out (p := Hid _) (HMEM.out 0 (by omega))
              obtain ⟨mv, emv⟩ : ∃ x, (movesX L X mode s).getD 0 0 = x := ⟨_, rfl⟩
              rw [emv] at hcell HGO HIN
              clear emv HSTEP HMEM HI HLL
              go_wp2_with fail
              refine Calls.mono (HD.out _ _ _ _ _ _ hk HW.out HIN.out) ?_
              rintro e w4 ⟨rfl, v4, hW4⟩
              obtain ⟨s4, es4⟩ : ∃ x, doX X mode s mv.toNat = x := ⟨_, rfl⟩
              rw [es4] at hW4 HGO
              have HW' := HW
              clear HW es4
              have HW := Hid.out (p := Hid _) hW4
              have c9 := hW4.D.c9
              clear hW4 HW'
              cases hf : s4.fell with
              | true =>
                rw [hf] at c9
                have HRR : Hid (R = (s4, 1, k + 1)) := by
                  show _ = _
                  rw [HGO.out, hf]; rfl
                clear hf HGO
                have hs8 := HW.out.D.c8
                have hs6 := HW.out.D.c6
                obtain ⟨pa, pcp, hpv⟩ := HW.out.D.printsV
                obtain ⟨ga, gcp, hgv⟩ := HW.out.D.wordsV
                rw [hpv] at hs8
                rw [hgv] at hs6
                obtain ⟨⟨x0, x1, x2, x3⟩, xf⟩ := trace_cells HW.out.low
                have hsbB : w.heap.size + 2 ≤ sb := HW.out.D.fam.low _ _ HW.out.D.bblk
                have hne1 : ¬ sb = w.heap.size + 1 := by omega
                have hne2 : ¬ w.heap.size + 1 = sb := by omega
                obtain ⟨pl, hpl⟩ : ∃ x, s4.prints.length = x := ⟨_, rfl⟩
                obtain ⟨gl, hgl⟩ : ∃ x, s4.words.length = x := ⟨_, rfl⟩
                rw [hpl] at hs8 hpv
                rw [hgl] at hs6 hgv
                have HPV : Hid (v4 .prints = .slice pa pl pcp ∧ v4 .words = .slice ga gl gcp) := ⟨hpv, hgv⟩
                clear hpv hgv hpl hgl
                go_wp2
                refine region_tail 11 (by kernel_rfl) (by kernel_rfl) ?_
                simp only [List.take_succ_cons, List.take_zero, List.drop_succ_cons, List.drop_zero]
                repeat still_step
                refine wpStill_nil ?_
                go_wp2
                refine bodyPost_ret (v := .agg #[.slice pa pl pcp, .int .i64 1, .slice ga gl gcp, .int .i64 ((k : Int) + 1)]) (by simp [results, Try.results9, go_sem, cell_set, x0, x1, x2, x3]) rfl ?_
                refine ⟨pa, pl, pcp, ga, gl, gcp, ?_, ?_⟩
                · first | (rw [HRR.out]; done) | (rw [HRR.out]; rfl)
                · rw [HRR.out]
                  exact trace_fin (x0 := .slice pa pl pcp) (x1 := .int .i64 1) (x2 := .slice ga gl gcp) (x3 := .int .i64 ((k : Int) + 1)) HW.out.D (r := w.heap.size + 1) (by omega) (by omega) (HLOW.out _ HW.out.low) (by rfl) (by rfl) (by rfl) (by rfl) HPV.out.1 HPV.out.2
              | false =>
                rw [hf] at c9
                have HRR : Hid (runX L X mode (5000 - (k + 1)) s4 (k + 1) (script.drop q) = R) := by
                  show _ = _
                  rw [HGO.out, hf]; rfl
                clear hf HGO
                go_wp2
                go_roundw
                case rel => exact ⟨k + 1, q, v4, s4, by omega, by omega, by go_num, by first | rfl | go_num, rfl, HW, HRR⟩
                case measure => simp [intOf]; omega

end Go.Proofs.Ytipdnfpomdcenab
