/-
  Moves of the document's run: a lock becomes free.
-/
import Derived.Test.YtefnmbnakphhfadRDoP
namespace Go.Proofs.Ytefnmbnakphhfad
open Go.RowKit

set_option maxRecDepth 100000 in
set_option maxHeartbeats 3200000 in
theorem do_18 (w : World) (B sb : Nat) (P : Pg) (v : Rl → Value) (s : Sx) (A : Nat → Option Addr) (L C : Nat → Nat) (X : Nat → Nat → Nat → Int) (m lk rg t : Nat) (mv : Int) (_h0 : 0 ≤ mv) (_h1 : mv ≤ 1000) (hq : mv / 8 = t) (hr : mv % 8 = 0) (hx : Cx w B sb P v s A L C X m lk rg t) (hop : opT X s t 0 = 18) :
    Calls Try.prog 42 #[.pointer (some ⟨sb, 0, none⟩), .int .i64 mv] w (DoQ B sb P v w (orderX P.mode (stepS s t) t 18 (opT X s t 1) (opT X s t 2) (opT X s t 3))) := by
  obtain ⟨n, tb, tc, rb, rc, pc, ⟨htn, hn4, hpc4⟩, HPC, c5, HNX, HPRE⟩ := hx.pre
  have htl : t < s.ths.length := by have := hx.ho.ths; have := hx.ht; omega
  have hrl : (thOf s t).regs.length = rg := hx.ho.regs t hx.ht
  have hord := hx.hc.ord t (thOf s t).pc hx.ht hx.hlt
  have hsz := hx.hc.L4 t hx.ht
  have hrg2 := hx.hc.rg2
  change ordE rg m lk (L t) (opT X s t 0) (opT X s t 1) (opT X s t 2) (opT X s t 3) = 0 at hord
  rw [hop] at hord
  rw [hop] at HNX
  obtain ⟨a, ea⟩ : ∃ x, opT X s t 1 = x := ⟨_, rfl⟩
  obtain ⟨b, eb⟩ : ∃ x, opT X s t 2 = x := ⟨_, rfl⟩
  obtain ⟨c, ec⟩ : ∃ x, opT X s t 3 = x := ⟨_, rfl⟩
  rw [ea, eb, ec] at hord HNX ⊢
  clear ea eb ec
  obtain ⟨ia, rfl, ha⟩ := toN (ok_lock (Or.inr rfl) hord)
  have hwl : s.words.length = m := hx.ho.words
  have hol : s.own.length = lk := hx.ho.own
  have hm64 := hx.hc.m64
  have hlk4 := hx.hc.lk4
  have hw3 := hx.ho.wlen t hx.ht
  have hthn := hx.ho.ths
  have hpn4 := hx.hc.n4
  have hsl : (stepS s t).ths.length = s.ths.length := stepS_len s t
  have hsw : (thOf (stepS s t) t).wait.length ≤ 3 := by rw [stepS_wait htl]; exact hw3
  have hmode := hx.hm
  have hBw := hx.hB
  obtain ⟨VO, eO⟩ : ∃ x, s.own.getD ia 0 = x := ⟨_, rfl⟩
  have HVO : Hid (s.own.getD ia 0 = VO) := eO
  clear eO
  obtain ⟨ws, hws⟩ : ∃ x, (thOf s t).wait = x := ⟨_, rfl⟩
  have HWS : Hid ((thOf s t).wait = ws) := hws
  rw [hws] at hw3
  clear hws
  have HFELL : Hid (VO ≠ (t : Int) ∨ (ws.any fun x => x.lk && decide (x.wh = (ia : Int))) = true → orderX P.mode (stepS s t) t 18 (ia : Int) b c = fallX (stepS s t)) := fun h => by
    show (if (stepS s t).own.getD ia 0 ≠ (t : Int) ∨ ((thOf (stepS s t) t).wait.any fun x => x.lk && decide (x.wh = (ia : Int))) = true then fallX (stepS s t) else _) = _
    rw [stepS_wait htl, HWS.out, if_pos (by show s.own.getD ia 0 ≠ (t : Int) ∨ _; rw [HVO.out]; exact h)]
  have HSTORE : Hid (VO = (t : Int) → (ws.any fun x => x.lk && decide (x.wh = (ia : Int))) = false → orderX P.mode (stepS s t) t 18 (ia : Int) b c = storeW P.mode (stepS s t) t ⟨true, (ia : Int), 0⟩) := fun h1 h2 => by
    show (if (stepS s t).own.getD ia 0 ≠ (t : Int) ∨ ((thOf (stepS s t) t).wait.any fun x => x.lk && decide (x.wh = (ia : Int))) = true then _ else storeW P.mode (stepS s t) t ⟨true, (ia : Int), 0⟩) = _
    rw [stepS_wait htl, HWS.out, h2, if_neg (by show ¬ (s.own.getD ia 0 ≠ (t : Int) ∨ _); rw [HVO.out]; simpa using h1)]
  have HX := Hid.out (p := Hid _) hx
  clear hx hord hop hsz
  go_enter Try.func42, Try.ntmps42
  go_wp2_with fail
  refine Calls.mono HNX.out ?_
  rintro e w1 ⟨rfl, hb1⟩
  have HP := HPRE.out w1 hb1
  have d5 := HP.c5
  have dp := HP.cp
  have df := HP.cf
  have dr := HP.cr
  have nrt := HP.nrt
  have ntr := HP.ntr
  have lrb := HP.lrb
  have ltb := HP.ltb
  have nst := HP.nst
  have nts := HP.nts
  have lsb := HP.lsb
  obtain ⟨ob, oc, hov, hob, hlo⟩ := HP.D.ownB (by show 0 < s.own.length; omega)
  have nto := HP.D.fam.ne HP.btb hob (by simp)
  have not := HP.D.fam.ne hob HP.btb (by simp)
  have c7 := HP.D.c7
  rw [hov, show (stepS s t).own.length = s.own.length from rfl, hol] at c7
  have c7' := (World.cell?_of_block (w := w1) (a := ⟨sb, 7, none⟩) (Below.heap_setCell _ _ _ _ HP.nst)).symm.trans c7
  have co := HP.D.owner hob (r := ia) (by show ia < s.own.length; omega)
  have co' := (World.cell?_of_block (w := w1) (a := ⟨ob, ia, none⟩) (Below.heap_setCell _ _ _ _ not)).symm.trans co
  rw [show (stepS s t).own.getD ia 0 = s.own.getD ia 0 from rfl, HVO.out] at co'
  have lob : ob < w1.heap.size := by simpa [World.setCell] using hlo
  have f9 := (World.frozen?_of_block (w := w1) (a := ⟨sb, 9, none⟩) (Below.heap_setCell _ _ _ _ HP.nst)).symm.trans (HP.D.fam.frozen HP.D.bblk 9)
  have c9 := (World.cell?_of_block (w := w1) (a := ⟨sb, 9, none⟩) (Below.heap_setCell _ _ _ _ HP.nst)).symm.trans HP.D.c9
  obtain ⟨fl, efl⟩ : ∃ x, (stepS s t).fell = x := ⟨_, rfl⟩
  rw [efl] at c9
  clear efl
  have HFALL : Hid (∀ o, DSt (((w1.setCell ⟨tb, t * 3, none⟩ (.int .i64 ((pc : Int) + 1))).alloc o).setCell ⟨sb, 9, none⟩ (.bool true)) B P sb v (fallX (stepS s t)) ∧ Moved w (((w1.setCell ⟨tb, t * 3, none⟩ (.int .i64 ((pc : Int) + 1))).alloc o).setCell ⟨sb, 9, none⟩ (.bool true)) v v) := fun o => ⟨(HP.D.alloc o).fall, (HP.M.alloc o).put HP.D.bblk 9 _⟩
  by_cases hown : VO = (t : Int)
  · subst hown
    obtain ⟨qa, qc, hq⟩ := HP.D.waitV t
    rw [stepS_wait htl, HWS.out] at hq
    have cq := HP.D.wait HP.btb (t := t) (by rw [hsl]; exact htl)
    rw [hq] at cq
    have cq' : w1.cell? ⟨tb, t * 3 + 2, none⟩ = some (.slice qa ws.length qc) := by
      have h2 := (HX.out.hs.below hb1).wait HP.btb htl
      rwa [hq] at h2
    have HWIN : Hid (WIn w1 qa ws) := by
      have h2 := (HX.out.hs.below hb1).win (t := t) (a := qa) (c := qc) (by rw [HWS.out]; exact hq)
      rwa [HWS.out] at h2
    have nwt : Hid (∀ g, qa = some ⟨g, 0, none⟩ → g ≠ tb) := fun g e => HP.D.fam.ne (r := .wait t) (q := .thr) (by rw [hq, e]; rfl) HP.btb (by simp)
    have HQ0 : Hid (∀ g o, qa = some ⟨g, o, none⟩ → o = 0 ∧ g ≠ tb ∧ g < w1.heap.size) := fun g o e => by
      have h3 := HP.D.fam.own (.wait t)
      rw [hq, e] at h3
      rcases h3.2 with ⟨h4, _⟩ | ⟨g', cap, cur, h4, _, _⟩
      · simp at h4
      · simp only [Value.slice.injEq, Option.some.injEq, Addr.mk.injEq] at h4
        obtain ⟨⟨h5, h6, _⟩, _⟩ := h4
        refine ⟨h6, nwt.out g (by rw [e, h6]), ?_⟩
        have := HP.D.fam.lt (r := .wait t) (g := g) (by rw [hq, e]; rfl)
        simpa [World.setCell] using this
    have HC : Hid (∀ W, W.heap = ((w1.setCell ⟨tb, t * 3, none⟩ (.int .i64 ((pc : Int) + 1))).alloc (.cells #[.int .i64 18, .int .i64 (ia : Int), .int .i64 b, .int .i64 c] 51)).heap → W.os = w1.os → W.tape = w1.tape → W.output = w1.output → Calls Try.prog 55 #[.pointer (some ⟨sb, 0, none⟩), .int .i64 t, .agg #[.bool true, .int .i64 (ia : Int), .int .i64 0]] W fun e w' => e = .returned (.tuple #[]) ∧ ∃ v', DSt w' B P sb v' (storeW P.mode (stepS s t) t ⟨true, (ia : Int), 0⟩) ∧ Moved w w' v v') := fun W e1 e2 e3 e4 =>
      (store_any W B sb P v (stepS s t) t ⟨true, (ia : Int), 0⟩ (DSt.same (HP.D.alloc _) e1) (by rw [e1]; have := (HP.M.alloc (.cells #[.int .i64 18, .int .i64 (ia : Int), .int .i64 b, .int .i64 c] 51)).size; omega) hmode (by rw [hsl]; exact htl) (by rw [hsl]; omega) hsw (by show (0 : Int) ≤ (ia : Int); omega) (by show (ia : Int) < ((s.own.length : Nat) : Int); omega) (by show s.words.length ≤ 64; omega) (by show s.own.length ≤ 4; omega)).mono fun e w' ⟨h1, v', h2, h3⟩ => ⟨h1, v', h2, (Moved.same (HP.M.alloc _) e1 e2 e3 e4).trans h3⟩
    have KQ := cell_up cq (.cells #[.int .i64 18, .int .i64 (ia : Int), .int .i64 b, .int .i64 c] 51)
    have KI : ((w1.setCell ⟨tb, t * 3, none⟩ (.int .i64 ((pc : Int) + 1))).alloc (.cells #[.int .i64 18, .int .i64 (ia : Int), .int .i64 b, .int .i64 c] 51)).cell? ⟨w1.heap.size, 1, none⟩ = some (.int .i64 (ia : Int)) := by go_simp
    obtain ⟨k, hk⟩ : ∃ x, ws.length = x := ⟨_, rfl⟩
    have HK : Hid (ws.length = k) := hk
    rw [hk] at cq' hw3 KQ
    have HKQ := Hid.out (p := Hid _) KQ
    have HKI := Hid.out (p := Hid _) KI
    clear KQ KI
    clear HP HPRE HNX hov hob c7 co hlo hq cq nwt hk
    go_wp2
    go_quiet (fail)
    go_wp2
    go_loopw [12] (fun i wr => ∃ j : Nat, j ≤ k ∧ i = .int .i64 j ∧ Hid (∀ p, p < j → ((ws.getD p default).lk && decide ((ws.getD p default).wh = (ia : Int))) = false) ∧ wr.heap = ((w1.setCell ⟨tb, t * 3, none⟩ (.int .i64 ((pc : Int) + 1))).alloc (.cells #[.int .i64 18, .int .i64 (ia : Int), .int .i64 b, .int .i64 c] 51)).heap ∧ wr.os = w1.os ∧ wr.tape = w1.tape ∧ wr.output = w1.output) (fun i _ => k - (intOf i).toNat)
    case atStart => exact ⟨0, Nat.zero_le _, rfl, fun p hp => absurd hp (Nat.not_lt_zero _), rfl, rfl, rfl, rfl⟩
    case round =>
      obtain ⟨j, hj, rfl, HJ, eh, eo, et, ep⟩ := hrel
      have hblk : ∀ g, g ≠ tb → g < w1.heap.size → wr.heap[g]? = w1.heap[g]? := fun g h1 h2 => by rw [eh, Below.heap_alloc _ _ _ (by simpa [World.setCell] using h2), Below.heap_setCell _ _ _ _ h1]
      have r9 := (World.frozen?_of_block (w := w1) (a := ⟨sb, 9, none⟩) (hblk sb nst lsb)).trans f9
      have r9c := (World.cell?_of_block (w := w1) (a := ⟨sb, 9, none⟩) (hblk sb nst lsb)).trans c9
      have rq := (World.cell?_of_block (w := (w1.setCell ⟨tb, t * 3, none⟩ (.int .i64 ((pc : Int) + 1))).alloc (.cells #[.int .i64 18, .int .i64 (ia : Int), .int .i64 b, .int .i64 c] 51)) (a := ⟨tb, t * 3 + 2, none⟩) (w' := wr) (by rw [eh])).trans HKQ.out
      have ri := (World.cell?_of_block (w := (w1.setCell ⟨tb, t * 3, none⟩ (.int .i64 ((pc : Int) + 1))).alloc (.cells #[.int .i64 18, .int .i64 (ia : Int), .int .i64 b, .int .i64 c] 51)) (a := ⟨w1.heap.size, 1, none⟩) (w' := wr) (by rw [eh])).trans HKI.out
      have HWR : Hid (∀ i, i < k → ∃ g, qa = some ⟨g, 0, none⟩ ∧ wr.cell? ⟨g, i * 3, none⟩ = some (.bool (ws.getD i default).lk) ∧ wr.cell? ⟨g, i * 3 + 1, none⟩ = some (.int .i64 (ws.getD i default).wh)) := fun i hi => by
        obtain ⟨g, o, e, h1, h2, _⟩ := HWIN.out i (by rw [HK.out]; exact hi)
        obtain ⟨rfl, h4, h5⟩ := HQ0.out g o e
        refine ⟨g, e, ?_, ?_⟩
        · rw [World.cell?_of_block (w := w1) (hblk g h4 h5)]; simpa using h1
        · rw [World.cell?_of_block (w := w1) (hblk g h4 h5)]; simpa using h2
      have HEQ : Hid (wr.heap = ((w1.setCell ⟨tb, t * 3, none⟩ (.int .i64 ((pc : Int) + 1))).alloc (.cells #[.int .i64 18, .int .i64 (ia : Int), .int .i64 b, .int .i64 c] 51)).heap ∧ wr.os = w1.os ∧ wr.tape = w1.tape ∧ wr.output = w1.output) := ⟨eh, eo, et, ep⟩
      clear eh eo et ep hblk
      by_cases hlt : j < k
      · obtain ⟨g, hqa, x0, x1⟩ := HWR.out j hlt
        subst hqa
        obtain ⟨lj, f1⟩ : ∃ v, (ws.getD j default).lk = v := ⟨_, rfl⟩
        obtain ⟨wj, f2⟩ : ∃ v, (ws.getD j default).wh = v := ⟨_, rfl⟩
        have HF1 : Hid ((ws.getD j default).lk = lj) := f1
        have HF2 : Hid ((ws.getD j default).wh = wj) := f2
        rw [f1] at x0
        rw [f2] at x1
        clear f1 f2
        cases lj with
        | true =>
          by_cases hw : wj = (ia : Int)
          · have HST := HFELL.out (Or.inr (by
              rw [List.any_eq_true]
              refine ⟨ws.getD j default, ?_, ?_⟩
              · have h1 : j < ws.length := by rw [HK.out]; exact hlt
                have e : ws.getD j default = ws[j] := by simp [List.getD, List.getElem?_eq_getElem h1]
                rw [e]; exact List.getElem_mem _
              · rw [HF1.out, HF2.out, hw]; simp))
            have HST' := Hid.out (p := Hid _) HST
            clear HST
            subst hw
            go_wp2
            go_quiet (fail)
            go_wp2
            go_end0
            refine ⟨rfl, v, ?_⟩
            rw [Hid.out HST']
            refine ⟨DSt.same (HFALL.out (.cells #[.int .i64 18, .int .i64 (ia : Int), .int .i64 b, .int .i64 c] 51)).1 ?_, Moved.same (HFALL.out (.cells #[.int .i64 18, .int .i64 (ia : Int), .int .i64 b, .int .i64 c] 51)).2 ?_ HEQ.out.2.1 HEQ.out.2.2.1 HEQ.out.2.2.2⟩
            all_goals exact setCell_heap HEQ.out.1
          · go_wp2
            go_quiet (fail)
            go_wp2
            go_roundw
            case rel =>
              refine ⟨j + 1, by omega, by go_num, fun p hp => ?_, HEQ.out.1, HEQ.out.2.1, HEQ.out.2.2.1, HEQ.out.2.2.2⟩
              rcases (by omega : p < j ∨ p = j) with h | rfl
              · exact HJ.out p h
              · rw [HF1.out, HF2.out, decide_eq_false hw]; rfl
            case measure => simp [intOf]; omega
        | false =>
          go_wp2
          go_quiet (fail)
          go_wp2
          go_roundw
          case rel =>
            refine ⟨j + 1, by omega, by go_num, fun p hp => ?_, HEQ.out.1, HEQ.out.2.1, HEQ.out.2.2.1, HEQ.out.2.2.2⟩
            rcases (by omega : p < j ∨ p = j) with h | rfl
            · exact HJ.out p h
            · rw [HF1.out]; rfl
          case measure => simp [intOf]; omega
      · obtain rfl : j = k := by omega
        have HST := HSTORE.out (by first | rfl | trivial) (by
          rw [List.any_eq_false]
          intro x hx
          obtain ⟨p, hp, rfl⟩ := List.mem_iff_getElem.mp hx
          have h2 := HJ.out p (by rw [← HK.out]; exact hp)
          have e : ws.getD p default = ws[p] := by simp [List.getD, List.getElem?_eq_getElem hp]
          rw [e] at h2
          rw [h2]; simp)
        have HST' := Hid.out (p := Hid _) HST
        clear HST
        go_wp2_with fail
        refine Calls.mono (HC.out _ HEQ.out.1 HEQ.out.2.1 HEQ.out.2.2.1 HEQ.out.2.2.2) ?_
        rintro e w2 ⟨rfl, v2, hD2, hM2⟩
        go_wp2_with fail
        go_end0
        refine ⟨rfl, v2, ?_⟩
        rw [Hid.out HST']
        exact ⟨hD2, hM2⟩
  · have hn : ¬ VO = (t : Int) := hown
    have HST := HFELL.out (Or.inl hown)
    have HST' := Hid.out (p := Hid _) HST
    clear HP HPRE HNX hov hob c7 co hlo HST HFELL HSTORE
    go_wp2
    go_quiet (fail)
    go_wp2
    go_end0
    refine ⟨rfl, v, ?_⟩
    rw [Hid.out HST']
    exact ⟨DSt.same (HFALL.out _).1 rfl, Moved.same (HFALL.out _).2 rfl rfl rfl rfl⟩

end Go.Proofs.Ytefnmbnakphhfad
