/-
  Moves of the document's run: a lock becomes free.
  The document's side: rows of rows of truths; which registers are live, for all registers.
-/
import Derived.Test.YtocfocjnnjdcgaaDoorRDoP
import Derived.Test.YtocfocjnnjdcgaaDoorLivC
namespace Go.Proofs.YtocfocjnnjdcgaaDoor
section
open Go.RowKit

set_option maxRecDepth 100000 in
set_option maxHeartbeats 3200000 in
theorem do_18 (w : World) (B sb : Nat) (P : Pg) (v : Rl → Value) (s : Sx) (A : Nat → Option Addr) (L C : Nat → Nat) (X : Nat → Nat → Nat → Int) (m lk rg t : Nat) (mv : Int) (_h0 : 0 ≤ mv) (_h1 : mv ≤ 1000) (hq : mv / 8 = t) (hr : mv % 8 = 0) (hx : Cx w B sb P v s A L C X m lk rg t) (hop : opT X s t 0 = 18) :
    Calls Tryd.prog 80 #[.pointer (some ⟨sb, 0, none⟩), .int .i64 mv] w (DoQ B sb P v w (orderX P.mode (stepS s t) t 18 (opT X s t 1) (opT X s t 2) (opT X s t 3))) := by
  obtain ⟨n, tb, tc, rb, rc, pc, ⟨htn, hn4, hpc4⟩, HPC, c5, HNX, HPRE⟩ := hx.pre
  have htl : t < s.ths.length := by have := hx.ho.ths; have := hx.ht; omega
  have hrl : (thOf s t).regs.length = rg := hx.ho.regs t hx.ht
  have hord := hx.hc.ord t (thOf s t).pc hx.ht hx.hlt
  have hsz := hx.hc.L4 t hx.ht
  have hrg2 := hx.hc.rg2
  change ordE rg m lk (L t) (opT X s t 0) (opT X s t 1) (opT X s t 2) (opT X s t 3) = 0 at hord
  rw [hop] at hord
  rw [hop] at HNX
  obtain ⟨a, ea⟩ : ∃ x, opT X s t 1 = x := ⟨_, rfl⟩
  obtain ⟨b, eb⟩ : ∃ x, opT X s t 2 = x := ⟨_, rfl⟩
  obtain ⟨c, ec⟩ : ∃ x, opT X s t 3 = x := ⟨_, rfl⟩
  rw [ea, eb, ec] at hord HNX ⊢
  clear ea eb ec
  obtain ⟨ia, rfl, ha⟩ := toN (ok_lock (Or.inr rfl) hord)
  have hwl : s.words.length = m := hx.ho.words
  have hol : s.own.length = lk := hx.ho.own
  have hm64 := hx.hc.m64
  have hlk4 := hx.hc.lk4
  have hw3 := hx.ho.wlen t hx.ht
  have hthn := hx.ho.ths
  have hpn4 := hx.hc.n4
  have hsl : (stepS s t).ths.length = s.ths.length := stepS_len s t
  have hsw : (thOf (stepS s t) t).wait.length ≤ 3 := by rw [stepS_wait htl]; exact hw3
  have hmode := hx.hm
  have hBw := hx.hB
  obtain ⟨VO, eO⟩ : ∃ x, s.own.getD ia 0 = x := ⟨_, rfl⟩
  have HVO : Hid (s.own.getD ia 0 = VO) := eO
  clear eO
  obtain ⟨ws, hws⟩ : ∃ x, (thOf s t).wait = x := ⟨_, rfl⟩
  have HWS : Hid ((thOf s t).wait = ws) := hws
  rw [hws] at hw3
  clear hws
  have HFELL : Hid (VO ≠ (t : Int) ∨ (ws.any fun x => x.lk && decide (x.wh = (ia : Int))) = true → orderX P.mode (stepS s t) t 18 (ia : Int) b c = fallX (stepS s t)) := fun h => by
    show (if (stepS s t).own.getD ia 0 ≠ (t : Int) ∨ ((thOf (stepS s t) t).wait.any fun x => x.lk && decide (x.wh = (ia : Int))) = true then fallX (stepS s t) else _) = _
    rw [stepS_wait htl, HWS.out, if_pos (by show s.own.getD ia 0 ≠ (t : Int) ∨ _; rw [HVO.out]; exact h)]
  have HSTORE : Hid (VO = (t : Int) → (ws.any fun x => x.lk && decide (x.wh = (ia : Int))) = false → orderX P.mode (stepS s t) t 18 (ia : Int) b c = storeW P.mode (stepS s t) t ⟨true, (ia : Int), 0⟩) := fun h1 h2 => by
    show (if (stepS s t).own.getD ia 0 ≠ (t : Int) ∨ ((thOf (stepS s t) t).wait.any fun x => x.lk && decide (x.wh = (ia : Int))) = true then _ else storeW P.mode (stepS s t) t ⟨true, (ia : Int), 0⟩) = _
    rw [stepS_wait htl, HWS.out, h2, if_neg (by show ¬ (s.own.getD ia 0 ≠ (t : Int) ∨ _); rw [HVO.out]; simpa using h1)]
  have HX := Hid.out (p := Hid _) hx
  clear hx hord hop hsz
  go_enter Tryd.func80, Tryd.ntmps80
  go_wp2_with fail
  refine Calls.mono HNX.out ?_
  rintro e w1 ⟨rfl, hb1⟩
  have HP := HPRE.out w1 hb1
  have d5 := HP.c5
  have dp := HP.cp
  have df := HP.cf
  have dr := HP.cr
  have nrt := HP.nrt
  have ntr := HP.ntr
  have lrb := HP.lrb
  have ltb := HP.ltb
  have nst := HP.nst
  have nts := HP.nts
  have lsb := HP.lsb
  obtain ⟨ob, oc, hov, hob, hlo⟩ := HP.D.ownB (by show 0 < s.own.length; omega)
  have nto := HP.D.fam.ne HP.btb hob (by simp)
  have not := HP.D.fam.ne hob HP.btb (by simp)
  have c7 := HP.D.c7
  rw [hov, show (stepS s t).own.length = s.own.length from rfl, hol] at c7
  have c7' := (World.cell?_of_block (w := w1) (a := ⟨sb, 7, none⟩) (Below.heap_setCell _ _ _ _ HP.nst)).symm.trans c7
  have co := HP.D.owner hob (r := ia) (by show ia < s.own.length; omega)
  have co' := (World.cell?_of_block (w := w1) (a := ⟨ob, ia, none⟩) (Below.heap_setCell _ _ _ _ not)).symm.trans co
  rw [show (stepS s t).own.getD ia 0 = s.own.getD ia 0 from rfl, HVO.out] at co'
  have lob : ob < w1.heap.size := by simpa [World.setCell] using hlo
  have f9 := (World.frozen?_of_block (w := w1) (a := ⟨sb, 9, none⟩) (Below.heap_setCell _ _ _ _ HP.nst)).symm.trans (HP.D.fam.frozen HP.D.bblk 9)
  have c9 := (World.cell?_of_block (w := w1) (a := ⟨sb, 9, none⟩) (Below.heap_setCell _ _ _ _ HP.nst)).symm.trans HP.D.c9
  obtain ⟨fl, efl⟩ : ∃ x, (stepS s t).fell = x := ⟨_, rfl⟩
  rw [efl] at c9
  clear efl
  have HFALL : Hid (∀ o, DSt (((w1.setCell ⟨tb, t * 3, none⟩ (.int .i64 ((pc : Int) + 1))).alloc o).setCell ⟨sb, 9, none⟩ (.bool true)) B P sb v (fallX (stepS s t)) ∧ Moved w (((w1.setCell ⟨tb, t * 3, none⟩ (.int .i64 ((pc : Int) + 1))).alloc o).setCell ⟨sb, 9, none⟩ (.bool true)) v v) := fun o => ⟨(HP.D.alloc o).fall, (HP.M.alloc o).put HP.D.bblk 9 _⟩
  by_cases hown : VO = (t : Int)
  · subst hown
    obtain ⟨qa, qc, hq⟩ := HP.D.waitV t
    rw [stepS_wait htl, HWS.out] at hq
    have cq := HP.D.wait HP.btb (t := t) (by rw [hsl]; exact htl)
    rw [hq] at cq
    have cq' : w1.cell? ⟨tb, t * 3 + 2, none⟩ = some (.slice qa ws.length qc) := by
      have h2 := (HX.out.hs.below hb1).wait HP.btb htl
      rwa [hq] at h2
    have HWIN : Hid (WIn w1 qa ws) := by
      have h2 := (HX.out.hs.below hb1).win (t := t) (a := qa) (c := qc) (by rw [HWS.out]; exact hq)
      rwa [HWS.out] at h2
    have nwt : Hid (∀ g, qa = some ⟨g, 0, none⟩ → g ≠ tb) := fun g e => HP.D.fam.ne (r := .wait t) (q := .thr) (by rw [hq, e]; rfl) HP.btb (by simp)
    have HQ0 : Hid (∀ g o, qa = some ⟨g, o, none⟩ → o = 0 ∧ g ≠ tb ∧ g < w1.heap.size) := fun g o e => by
      have h3 := HP.D.fam.own (.wait t)
      rw [hq, e] at h3
      rcases h3.2 with ⟨h4, _⟩ | ⟨g', cap, cur, h4, _, _⟩
      · simp at h4
      · simp only [Value.slice.injEq, Option.some.injEq, Addr.mk.injEq] at h4
        obtain ⟨⟨h5, h6, _⟩, _⟩ := h4
        refine ⟨h6, nwt.out g (by rw [e, h6]), ?_⟩
        have := HP.D.fam.lt (r := .wait t) (g := g) (by rw [hq, e]; rfl)
        simpa [World.setCell] using this
    have HC : Hid (∀ W, W.heap = ((w1.setCell ⟨tb, t * 3, none⟩ (.int .i64 ((pc : Int) + 1))).alloc (.cells #[.int .i64 18, .int .i64 (ia : Int), .int .i64 b, .int .i64 c] 55)).heap → W.os = w1.os → W.tape = w1.tape → W.output = w1.output → Calls Tryd.prog 99 #[.pointer (some ⟨sb, 0, none⟩), .int .i64 t, .agg #[.bool true, .int .i64 (ia : Int), .int .i64 0]] W fun e w' => e = .returned (.tuple #[]) ∧ ∃ v', DSt w' B P sb v' (storeW P.mode (stepS s t) t ⟨true, (ia : Int), 0⟩) ∧ Moved w w' v v') := fun W e1 e2 e3 e4 =>
      (store_any W B sb P v (stepS s t) t ⟨true, (ia : Int), 0⟩ (DSt.same (HP.D.alloc _) e1) (by rw [e1]; have := (HP.M.alloc (.cells #[.int .i64 18, .int .i64 (ia : Int), .int .i64 b, .int .i64 c] 55)).size; omega) hmode (by rw [hsl]; exact htl) (by rw [hsl]; omega) hsw (by show (0 : Int) ≤ (ia : Int); omega) (by show (ia : Int) < ((s.own.length : Nat) : Int); omega) (by show s.words.length ≤ 64; omega) (by show s.own.length ≤ 4; omega)).mono fun e w' ⟨h1, v', h2, h3⟩ => ⟨h1, v', h2, (Moved.same (HP.M.alloc _) e1 e2 e3 e4).trans h3⟩
    have KQ := cell_up cq (.cells #[.int .i64 18, .int .i64 (ia : Int), .int .i64 b, .int .i64 c] 55)
    have KI : ((w1.setCell ⟨tb, t * 3, none⟩ (.int .i64 ((pc : Int) + 1))).alloc (.cells #[.int .i64 18, .int .i64 (ia : Int), .int .i64 b, .int .i64 c] 55)).cell? ⟨w1.heap.size, 1, none⟩ = some (.int .i64 (ia : Int)) := by go_simp
    obtain ⟨k, hk⟩ : ∃ x, ws.length = x := ⟨_, rfl⟩
    have HK : Hid (ws.length = k) := hk
    rw [hk] at cq' hw3 KQ
    have HKQ := Hid.out (p := Hid _) KQ
    have HKI := Hid.out (p := Hid _) KI
    clear KQ KI
    clear HP HPRE HNX hov hob c7 co hlo hq cq nwt hk
    go_wp2
    go_quiet (fail)
    go_wp2
    go_loopw [12] (fun i wr => ∃ j : Nat, j ≤ k ∧ i = .int .i64 j ∧ Hid (∀ p, p < j → ((ws.getD p default).lk && decide ((ws.getD p default).wh = (ia : Int))) = false) ∧ wr.heap = ((w1.setCell ⟨tb, t * 3, none⟩ (.int .i64 ((pc : Int) + 1))).alloc (.cells #[.int .i64 18, .int .i64 (ia : Int), .int .i64 b, .int .i64 c] 55)).heap ∧ wr.os = w1.os ∧ wr.tape = w1.tape ∧ wr.output = w1.output) (fun i _ => k - (intOf i).toNat)
    case atStart => exact ⟨0, Nat.zero_le _, rfl, fun p hp => absurd hp (Nat.not_lt_zero _), rfl, rfl, rfl, rfl⟩
    case round =>
      obtain ⟨j, hj, rfl, HJ, eh, eo, et, ep⟩ := hrel
      have hblk : ∀ g, g ≠ tb → g < w1.heap.size → wr.heap[g]? = w1.heap[g]? := fun g h1 h2 => by rw [eh, Below.heap_alloc _ _ _ (by simpa [World.setCell] using h2), Below.heap_setCell _ _ _ _ h1]
      have r9 := (World.frozen?_of_block (w := w1) (a := ⟨sb, 9, none⟩) (hblk sb nst lsb)).trans f9
      have r9c := (World.cell?_of_block (w := w1) (a := ⟨sb, 9, none⟩) (hblk sb nst lsb)).trans c9
      have rq := (World.cell?_of_block (w := (w1.setCell ⟨tb, t * 3, none⟩ (.int .i64 ((pc : Int) + 1))).alloc (.cells #[.int .i64 18, .int .i64 (ia : Int), .int .i64 b, .int .i64 c] 55)) (a := ⟨tb, t * 3 + 2, none⟩) (w' := wr) (by rw [eh])).trans HKQ.out
      have ri := (World.cell?_of_block (w := (w1.setCell ⟨tb, t * 3, none⟩ (.int .i64 ((pc : Int) + 1))).alloc (.cells #[.int .i64 18, .int .i64 (ia : Int), .int .i64 b, .int .i64 c] 55)) (a := ⟨w1.heap.size, 1, none⟩) (w' := wr) (by rw [eh])).trans HKI.out
      have HWR : Hid (∀ i, i < k → ∃ g, qa = some ⟨g, 0, none⟩ ∧ wr.cell? ⟨g, i * 3, none⟩ = some (.bool (ws.getD i default).lk) ∧ wr.cell? ⟨g, i * 3 + 1, none⟩ = some (.int .i64 (ws.getD i default).wh)) := fun i hi => by
        obtain ⟨g, o, e, h1, h2, _⟩ := HWIN.out i (by rw [HK.out]; exact hi)
        obtain ⟨rfl, h4, h5⟩ := HQ0.out g o e
        refine ⟨g, e, ?_, ?_⟩
        · rw [World.cell?_of_block (w := w1) (hblk g h4 h5)]; simpa using h1
        · rw [World.cell?_of_block (w := w1) (hblk g h4 h5)]; simpa using h2
      have HEQ : Hid (wr.heap = ((w1.setCell ⟨tb, t * 3, none⟩ (.int .i64 ((pc : Int) + 1))).alloc (.cells #[.int .i64 18, .int .i64 (ia : Int), .int .i64 b, .int .i64 c] 55)).heap ∧ wr.os = w1.os ∧ wr.tape = w1.tape ∧ wr.output = w1.output) := ⟨eh, eo, et, ep⟩
      clear eh eo et ep hblk
      by_cases hlt : j < k
      · obtain ⟨g, hqa, x0, x1⟩ := HWR.out j hlt
        subst hqa
        obtain ⟨lj, f1⟩ : ∃ v, (ws.getD j default).lk = v := ⟨_, rfl⟩
        obtain ⟨wj, f2⟩ : ∃ v, (ws.getD j default).wh = v := ⟨_, rfl⟩
        have HF1 : Hid ((ws.getD j default).lk = lj) := f1
        have HF2 : Hid ((ws.getD j default).wh = wj) := f2
        rw [f1] at x0
        rw [f2] at x1
        clear f1 f2
        cases lj with
        | true =>
          by_cases hw : wj = (ia : Int)
          · have HST := HFELL.out (Or.inr (by
              rw [List.any_eq_true]
              refine ⟨ws.getD j default, ?_, ?_⟩
              · have h1 : j < ws.length := by rw [HK.out]; exact hlt
                have e : ws.getD j default = ws[j] := by simp [List.getD, List.getElem?_eq_getElem h1]
                rw [e]; exact List.getElem_mem _
              · rw [HF1.out, HF2.out, hw]; simp))
            have HST' := Hid.out (p := Hid _) HST
            clear HST
            subst hw
            go_wp2
            go_quiet (fail)
            go_wp2
            go_end0
            refine ⟨rfl, v, ?_⟩
            rw [Hid.out HST']
            refine ⟨DSt.same (HFALL.out (.cells #[.int .i64 18, .int .i64 (ia : Int), .int .i64 b, .int .i64 c] 55)).1 ?_, Moved.same (HFALL.out (.cells #[.int .i64 18, .int .i64 (ia : Int), .int .i64 b, .int .i64 c] 55)).2 ?_ HEQ.out.2.1 HEQ.out.2.2.1 HEQ.out.2.2.2⟩
            all_goals exact setCell_heap HEQ.out.1
          · go_wp2
            go_quiet (fail)
            go_wp2
            go_roundw
            case rel =>
              refine ⟨j + 1, by omega, by go_num, fun p hp => ?_, HEQ.out.1, HEQ.out.2.1, HEQ.out.2.2.1, HEQ.out.2.2.2⟩
              rcases (by omega : p < j ∨ p = j) with h | rfl
              · exact HJ.out p h
              · rw [HF1.out, HF2.out, decide_eq_false hw]; rfl
            case measure => simp [intOf]; omega
        | false =>
          go_wp2
          go_quiet (fail)
          go_wp2
          go_roundw
          case rel =>
            refine ⟨j + 1, by omega, by go_num, fun p hp => ?_, HEQ.out.1, HEQ.out.2.1, HEQ.out.2.2.1, HEQ.out.2.2.2⟩
            rcases (by omega : p < j ∨ p = j) with h | rfl
            · exact HJ.out p h
            · rw [HF1.out]; rfl
          case measure => simp [intOf]; omega
      · obtain rfl : j = k := by omega
        have HST := HSTORE.out (by first | rfl | trivial) (by
          rw [List.any_eq_false]
          intro x hx
          obtain ⟨p, hp, rfl⟩ := List.mem_iff_getElem.mp hx
          have h2 := HJ.out p (by rw [← HK.out]; exact hp)
          have e : ws.getD p default = ws[p] := by simp [List.getD, List.getElem?_eq_getElem hp]
          rw [e] at h2
          rw [h2]; simp)
        have HST' := Hid.out (p := Hid _) HST
        clear HST
        go_wp2_with fail
        refine Calls.mono (HC.out _ HEQ.out.1 HEQ.out.2.1 HEQ.out.2.2.1 HEQ.out.2.2.2) ?_
        rintro e w2 ⟨rfl, v2, hD2, hM2⟩
        go_wp2_with fail
        go_end0
        refine ⟨rfl, v2, ?_⟩
        rw [Hid.out HST']
        exact ⟨hD2, hM2⟩
  · have hn : ¬ VO = (t : Int) := hown
    have HST := HFELL.out (Or.inl hown)
    have HST' := Hid.out (p := Hid _) HST
    clear HP HPRE HNX hov hob c7 co hlo HST HFELL HSTORE
    go_wp2
    go_quiet (fail)
    go_wp2
    go_end0
    refine ⟨rfl, v, ?_⟩
    rw [Hid.out HST']
    exact ⟨DSt.same (HFALL.out _).1 rfl, Moved.same (HFALL.out _).2 rfl rfl rfl rfl⟩
end

section
open Go.RowKit

/-- Rows of truths in a row, k of m made; all lie behind what lay in w. -/
structure Grid (w W : World) (g m rg k : Nat) (G : Nat → Nat) (P : Nat → List Bool) : Prop where
  out : W.heap[g]? = some (.cells ((List.range m).map fun i => if i < k then .slice (some ⟨G i, 0, none⟩) rg rg else nilV).toArray 39)
  row : ∀ i, i < k → BR W (G i) (P i)
  len : ∀ i, i < k → (P i).length = rg
  inj : ∀ i j, i < k → j < k → G i = G j → i = j
  lo : w.heap.size ≤ g ∧ ∀ i, i < k → w.heap.size ≤ G i
  low : Below w.heap.size w W
  km : k ≤ m
def putP (P : Nat → List Bool) (i j : Nat) (b : Bool) : Nat → List Bool := fun q => if q = i then (P i).set j b else P q
theorem getD_setB {R : List Bool} {j i : Nat} {b : Bool} (hj : j < R.length) : (R.set j b).getD i false = if i = j then b else R.getD i false := by
  rw [List.getD_eq_getElem?_getD, List.getD_eq_getElem?_getD]
  by_cases e : i = j
  · subst e
    rw [List.getElem?_set_self hj, if_pos rfl]
    rfl
  · rw [List.getElem?_set_ne (fun x => e x.symm), if_neg e]
theorem putP_getD {P : Nat → List Bool} {i j q c : Nat} {b : Bool} (hj : j < (P i).length) : (putP P i j b q).getD c false = if q = i ∧ c = j then b else (P q).getD c false := by
  unfold putP
  by_cases hq : q = i
  · subst hq
    rw [if_pos rfl, getD_setB hj]
    by_cases hc : c = j
    · rw [if_pos hc, if_pos ⟨rfl, hc⟩]
    · rw [if_neg hc, if_neg (fun h => hc h.2)]
  · rw [if_neg hq, if_neg (fun h => hq h.1)]
section
variable {w W W' : World} {g m rg k : Nat} {G : Nat → Nat} {P : Nat → List Bool}
theorem Grid.below (h : Grid w W g m rg k G P) (hb : Below W.heap.size W W') : Grid w W' g m rg k G P :=
  ⟨(hb.block g (Array.getElem?_eq_some_iff.1 h.out).1).trans h.out, fun i hi => (h.row i hi).below hb, h.len, h.inj, h.lo, h.low.trans (hb.mono h.low.size), h.km⟩
theorem Grid.ne (h : Grid w W g m rg k G P) {i : Nat} (hi : i < k) : g ≠ G i := fun e => by
  have h1 := h.row i hi
  unfold BR at h1
  rw [← e, h.out] at h1
  simp only [Option.some.injEq, Obj.cells.injEq] at h1
  exact absurd h1.2.1 (by decide)
theorem Grid.at (h : Grid w W g m rg k G P) {i : Nat} (hi : i < k) : W.cell? ⟨g, i, none⟩ = some (.slice (some ⟨G i, 0, none⟩) rg rg) := by
  refine box_cell h.out ?_
  have := h.km
  simp [hi, show i < m by omega]
theorem Grid.cell (h : Grid w W g m rg k G P) {i j : Nat} (hi : i < k) (hj : j < rg) : W.cell? ⟨G i, j, none⟩ = some (.bool ((P i).getD j false)) := (h.row i hi).cell (by rw [h.len i hi]; exact hj)
theorem Grid.free (h : Grid w W g m rg k G P) {i : Nat} (hi : i < k) (j : Nat) : W.frozen? ⟨G i, j, none⟩ = false := (h.row i hi).free j
theorem Grid.put (h : Grid w W g m rg k G P) {i : Nat} (hi : i < k) (j : Nat) (b : Bool) : Grid w (W.setCell ⟨G i, j, none⟩ (.bool b)) g m rg k G (putP P i j b) := by
  refine ⟨?_, fun q hq => ?_, fun q hq => ?_, h.inj, h.lo, h.low.setCell (h.lo.2 i hi) _, h.km⟩
  · exact (Below.heap_setCell _ _ _ _ (fun x => h.ne hi (by simpa using x))).trans h.out
  · unfold putP
    by_cases e : q = i
    · subst e
      rw [if_pos rfl]
      exact (h.row q hq).put j b
    · rw [if_neg e]
      exact (h.row q hq).far (fun x => e (h.inj q i hq hi x)) _
  · unfold putP
    split
    · rw [List.length_set]; exact h.len i hi
    · exact h.len q hq
/-- One more row. -/
theorem Grid.more (h : Grid w W g m rg k G P) (hk : k < m) (hn : BR W' W.heap.size (List.replicate rg false)) (hb : Below W.heap.size W W') :
    Grid w (W'.setCell ⟨g, k, none⟩ (.slice (some ⟨W.heap.size, 0, none⟩) rg rg)) g m rg (k + 1) (fun i => if i = k then W.heap.size else G i) (fun i => if i = k then List.replicate rg false else P i) := by
  have h2 := h.below hb
  have hgl : g < W.heap.size := (Array.getElem?_eq_some_iff.1 h.out).1
  refine ⟨?_, fun i hi => ?_, fun i hi => ?_, fun i j hi hj e => ?_, ⟨h.lo.1, fun i hi => ?_⟩, h2.low.setCell h.lo.1 _, hk⟩
  · refine (heap_set_same h2.out).trans ?_
    rw [List.setIfInBounds_toArray]
    congr 3
    refine List.ext_getElem? fun i => ?_
    rw [List.getElem?_set, List.length_map, List.length_range]
    by_cases e : k = i
    · subst e
      rw [if_pos rfl, if_pos hk]
      simp [hk]
    · rw [if_neg e]
      by_cases him : i < m
      · simp only [List.getElem?_map, List.getElem?_range him, Option.map_some]
        congr 1
        by_cases hik : i < k
        · rw [if_pos hik, if_pos (by omega), if_neg (by omega)]
        · rw [if_neg hik, if_neg (by omega)]
      · rw [List.getElem?_eq_none (by simp; omega), List.getElem?_eq_none (by simp; omega)]
  · by_cases e : i = k
    · subst e
      rw [if_pos rfl, if_pos rfl]
      exact hn.far (by omega) _
    · rw [if_neg e, if_neg e]
      exact (h2.row i (by omega)).far (fun x => h.ne (i := i) (by omega) x.symm) _
  · by_cases e : i = k
    · rw [if_pos e]; simp
    · rw [if_neg e]; exact h.len i (by omega)
  · have hl : ∀ q, q < k → G q < W.heap.size := fun q hq => (h.row q hq).lt
    by_cases ei : i = k
    · by_cases ej : j = k
      · rw [ei, ej]
      · rw [if_pos ei, if_neg ej] at e
        have := hl j (by omega)
        omega
    · by_cases ej : j = k
      · rw [if_neg ei, if_pos ej] at e
        have := hl i (by omega)
        omega
      · rw [if_neg ei, if_neg ej] at e
        exact h.inj i j (by omega) (by omega) e
  · split
    · exact h.low.size
    · exact h.lo.2 i (by omega)
end
theorem infoBl : (Tryd.prog.info? 39).map (fun i => (i.zero, i.size, i.bytes)) = some (some nilV, 1, 24) := by kernel_rfl
set_option maxRecDepth 100000 in
theorem grid_start (w : World) (m rg : Nat) (hm : m ≤ 1001) : ∃ w1, (Instr.makeSlice 34 (.int .i64 (m : Int)) (.int .i64 (m : Int))).run Tryd.prog w = .ok (.slice (some ⟨w.heap.size, 0, none⟩) m m) w1 ∧ Grid w w1 w.heap.size m rg 0 (fun _ => 0) (fun _ => []) ∧ Below w.heap.size w w1 := by
  obtain ⟨i, hi, hz0, hz1, hz2⟩ := info_is infoBl
  obtain ⟨w1, r1, r2, r3⟩ := run_makeSlice_full (P := Tryd.prog) w w.heap.size 34 39 i nilV 1 Tryd.underlying34 hi hz0 hz1 .i64 .i64 m (by omega) (by rw [hz2]; omega) (by unfold maxLen; omega) (Nat.le_refl _)
  have hlow : Below w.heap.size w w1 := (Below.refl _ _).grown r3 (Nat.le_refl _) (fun k hk => by cases hk)
  refine ⟨w1, by simpa using r1, ⟨?_, fun i h => absurd h (Nat.not_lt_zero _), fun i h => absurd h (Nat.not_lt_zero _), fun i j h => absurd h (Nat.not_lt_zero _), ⟨Nat.le_refl _, fun i h => absurd h (Nat.not_lt_zero _)⟩, hlow, Nat.zero_le _⟩, hlow⟩
  have e : nilV.cells = #[nilV] := rfl
  rw [Nat.mul_one, e] at r2
  refine (owns_heap r2).trans ?_
  congr 2
  apply Array.ext'
  apply List.ext_getElem?
  intro i
  simp only [madeCells]
  by_cases h : i < m
  · simp [h, Nat.mod_one]
  · simp [h]

set_option maxRecDepth 100000 in
set_option maxHeartbeats 6400000 in
/-- Which registers are live ahead of each order. -/
theorem rsets_any (w : World) (ca : Option Addr) (l cc : Nat) (X : Nat → Nat → Int) (rg m lk : Nat) (hl : l ≤ 1000) (hrg : rg ≤ 200) (hord : ∀ i, i < l → OrdAt w ca i (X i 0) (X i 1) (X i 2) (X i 3)) (hok : ∀ i, i < l → ordE rg m lk l (X i 0) (X i 1) (X i 2) (X i 3) = 0) :
    Calls Tryd.prog 11 #[.slice ca l cc, .int .i64 rg] w fun e w' => ∃ g G P, e = .returned (.slice (some ⟨g, 0, none⟩) (l + 1) (l + 1)) ∧ Grid w w' g (l + 1) rg (l + 1) G P ∧ (∀ i q, i ≤ l → q < rg → ((P i).getD q false = true ↔ Lv X l q i)) := by
  obtain ⟨w1, hrun1, hG1, -⟩ := grid_start w (l + 1) rg (by omega)
  have hlx : ((l : Int) + 1) = ((l + 1 : Nat) : Int) := by omega
  rw [← hlx] at hrun1
  have HAH : Hid (∀ V, Below w.heap.size w V → ∀ r, r < rg → Calls Tryd.prog 34 #[.slice ca l cc, .int .i64 (r : Int)] V fun e w' => ∃ ab R, e = .returned (.slice (some ⟨ab, 0, none⟩) (l + 1) (l + 1)) ∧ BR w' ab R ∧ R.length = l + 1 ∧ (∀ i, R.getD i false = true ↔ Lv X l r i) ∧ Below V.heap.size V w' ∧ V.heap.size ≤ ab) := fun V hV r _ => rahead_any V ca l cc X rg m lk r hl (fun i hi => (hord i hi).below hV) hok
  have HG1 := Hid.out (p := Hid _) hG1
  have HTS : Hid (∀ V, ∃ w1, (Instr.makeSlice 39 (.int .i64 (rg : Int)) (.int .i64 (rg : Int))).run Tryd.prog V = .ok (.slice (some ⟨V.heap.size, 0, none⟩) rg rg) w1 ∧ BR w1 V.heap.size (List.replicate rg false) ∧ Below V.heap.size V w1) := fun V => truths_start V rg (by omega)
  clear hord hok hlx hG1
  go_enter Tryd.func11, Tryd.ntmps11
  go_wp2_with fail
  go_loopw [6] (fun x wr => ∃ (k : Nat) (G : Nat → Nat) (P : Nat → List Bool), k ≤ l + 1 ∧ x = .int .i64 k ∧ Hid (Grid w wr w.heap.size (l + 1) rg k G P)) (fun x _ => l + 1 - (intOf x).toNat)
  case atStart => exact ⟨0, _, _, Nat.zero_le _, rfl, HG1.out⟩
  case round =>
    obtain ⟨k, G, P, hk, rfl, HG⟩ := hrel
    clear HG1
    by_cases hlt : k ≤ l
    · have hlt' : (k : Int) ≤ (l : Int) := by omega
      have hkb : (k : Int) < (l : Int) + 1 := by omega
      obtain ⟨w3, hrun3, hR3, hB3⟩ := HTS.out wr
      have hNext := HG.out.more (by omega) hR3 hB3
      have HN := Hid.out (p := Hid _) hNext
      obtain ⟨v9, hc9⟩ : ∃ v, w3.cell? ⟨w.heap.size, k, none⟩ = some v := by
        have h1 := (HG.out.below hB3).out
        exact ⟨nilV, box_cell h1 (by simp [show k < l + 1 by omega])⟩
      have hf9 : w3.frozen? ⟨w.heap.size, k, none⟩ = false := box_free (HG.out.below hB3).out
      clear hNext hR3 hB3
      go_wp2_with fail
      go_roundw
      case rel => exact ⟨k + 1, _, _, by omega, by go_num, HN.out⟩
      case measure => simp [intOf]; omega
    · obtain rfl : k = l + 1 := by omega
      have hlt' : ¬ (((l + 1 : Nat) : Int)) ≤ (l : Int) := by omega
      go_wp2_with fail
      go_loopw [7] (fun x wr => ∃ (r : Nat) (P : Nat → List Bool), r ≤ rg ∧ x = .int .i64 r ∧ Hid (Grid w wr w.heap.size (l + 1) rg (l + 1) G P ∧ ∀ i q, i ≤ l → q < r → ((P i).getD q false = true ↔ Lv X l q i))) (fun x _ => rg - (intOf x).toNat)
      case atStart => exact ⟨0, P, Nat.zero_le _, rfl, HG.out, fun i q _ h => absurd h (Nat.not_lt_zero _)⟩
      case round =>
        obtain ⟨r, P, hr, rfl, HI⟩ := hrel
        clear HG
        by_cases hrl : r < rg
        · have hri : (r : Int) < (rg : Int) := by omega
          go_wp2_with fail
          refine Calls.mono (HAH.out _ HI.out.1.low r hrl) ?_
          rintro e w4 ⟨ab, R, rfl, hR4, hRl, hRv, hb4, hab⟩
          have H4 : Hid (Grid w w4 w.heap.size (l + 1) rg (l + 1) G P ∧ BR w4 ab R ∧ (∀ i q, i ≤ l → (q < r ∨ (q = r ∧ i < 0)) → ((P i).getD q false = true ↔ Lv X l q i))) := ⟨HI.out.1.below hb4, hR4, fun i q h1 h2 => HI.out.2 i q h1 (by omega)⟩
          have HV : Hid (R.length = l + 1 ∧ (∀ i, R.getD i false = true ↔ Lv X l r i) ∧ ∀ i, i < l + 1 → G i ≠ ab) := ⟨hRl, hRv, fun i hi e => by have := (HI.out.1.row i hi).lt; omega⟩
          clear hR4 hRl hRv hb4 hab HI
          go_wp2_with fail
          go_loopw [9] (fun x wi => ∃ (t : Nat) (P : Nat → List Bool), t ≤ l + 1 ∧ x = .int .i64 t ∧ Hid (Grid w wi w.heap.size (l + 1) rg (l + 1) G P ∧ BR wi ab R ∧ (∀ i q, i ≤ l → (q < r ∨ (q = r ∧ i < t)) → ((P i).getD q false = true ↔ Lv X l q i)))) (fun x _ => l + 1 - (intOf x).toNat)
          case atStart => exact ⟨0, P, Nat.zero_le _, rfl, H4.out⟩
          case round =>
            obtain ⟨t, P, ht, rfl, HJ⟩ := hrel
            clear H4
            by_cases htl : t ≤ l
            · have hti : (t : Int) ≤ (l : Int) := by omega
              have htb : (t : Int) < (l : Int) + 1 := by omega
              have ht1 : t < l + 1 := by omega
              have a0 := HJ.out.1.at ht1
              have a1 := HJ.out.2.1.cell (i := t) (by rw [HV.out.1]; exact ht1)
              have a2 := HJ.out.1.cell ht1 hrl
              have a3 := HJ.out.1.free ht1 r
              obtain ⟨bt, hbt⟩ : ∃ b, R.getD t false = b := ⟨_, rfl⟩
              rw [hbt] at a1
              have HBT := Hid.out (p := Hid _) hbt
              obtain ⟨gt, hgt⟩ : ∃ b, G t = b := ⟨_, rfl⟩
              rw [hgt] at a0 a2 a3
              have HGT := Hid.out (p := Hid _) hgt
              clear hbt hgt
              go_wp2_with fail
              refine region_tail 10 (by kernel_rfl) (by kernel_rfl) ?_
              simp only [List.take_succ_cons, List.take_zero, List.drop_succ_cons, List.drop_zero]
              repeat still_step
              refine wpStill_nil ?_
              go_wp2_with fail
              go_roundw
              case rel =>
                have hg := (HJ.out.1.below ((Below.refl wr.heap.size wr).drew)).put ht1 r bt
                rw [HGT.out] at hg
                have hb := (BR.below HJ.out.2.1 ((Below.refl wr.heap.size wr).drew)).far (b := gt) (i := r) (fun e => HV.out.2.2 t ht1 (by rw [HGT.out]; exact e.symm)) (.bool bt)
                refine ⟨t + 1, putP P t r bt, by omega, by go_num, hg, hb, fun i q hi hq => ?_⟩
                rw [putP_getD (by rw [HJ.out.1.len t ht1]; exact hrl)]
                by_cases h : i = t ∧ q = r
                · rw [if_pos h, h.1, h.2, ← HBT.out]
                  exact HV.out.2.1 t
                · rw [if_neg h]
                  exact HJ.out.2.2 i q hi (by omega)
              case measure => simp [intOf]; omega
            · obtain rfl : t = l + 1 := by omega
              have hti : ¬ (((l + 1 : Nat) : Int)) ≤ (l : Int) := by omega
              have HN : Hid (Grid w wr w.heap.size (l + 1) rg (l + 1) G P ∧ ∀ i q, i ≤ l → q < r + 1 → ((P i).getD q false = true ↔ Lv X l q i)) := ⟨HJ.out.1, fun i q h1 h2 => HJ.out.2.2 i q h1 (by omega)⟩
              go_wp2_with fail
              go_roundw
              case rel => exact ⟨r + 1, P, by omega, by go_num, HN.out⟩
              case measure => simp [intOf]; omega
        · obtain rfl : r = rg := by omega
          go_wp2_with fail
          go_ret
          exact ⟨_, G, P, rfl, HI.out.1, HI.out.2⟩
end

end Go.Proofs.YtocfocjnnjdcgaaDoor
