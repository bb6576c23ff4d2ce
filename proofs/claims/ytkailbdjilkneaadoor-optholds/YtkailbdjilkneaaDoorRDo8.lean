/-
  Moves of the document's run: a lock becomes free.
  Sets of registers as four words each: what they hold; the program's passes over them.
-/
import Derived.Test.YtkailbdjilkneaaDoorRFind
import Derived.Test.YtkailbdjilkneaaDoorCOkP
import Derived.Laws.Bits64b
import Derived.Lib.TrailingZeros
namespace Go.Proofs.YtkailbdjilkneaaDoor
section
open Go.RowKit

set_option maxRecDepth 100000 in
set_option maxHeartbeats 3200000 in
theorem do_18 (w : World) (B sb : Nat) (P : Pg) (v : Rl → Value) (s : Sx) (A : Nat → Option Addr) (L C : Nat → Nat) (X : Nat → Nat → Nat → Int) (m lk rg t : Nat) (mv : Int) (_h0 : 0 ≤ mv) (_h1 : mv ≤ 1000) (hq : mv / 8 = t) (hr : mv % 8 = 0) (hx : Cx w B sb P v s A L C X m lk rg t) (hop : opT X s t 0 = 18) :
    Calls Tryd.prog 81 #[.pointer (some ⟨sb, 0, none⟩), .int .i64 mv] w (DoQ B sb P v w (orderX P.mode (stepS s t) t 18 (opT X s t 1) (opT X s t 2) (opT X s t 3))) := by
  obtain ⟨n, tb, tc, rb, rc, pc, ⟨htn, hn4, hpc4⟩, HPC, c5, HNX, HPRE⟩ := hx.pre
  have htl : t < s.ths.length := by have := hx.ho.ths; have := hx.ht; omega
  have hrl : (thOf s t).regs.length = rg := hx.ho.regs t hx.ht
  have hord := hx.hc.ord t (thOf s t).pc hx.ht hx.hlt
  have hsz := hx.hc.L4 t hx.ht
  have hrg2 := hx.hc.rg2
  change ordE rg m lk (L t) (opT X s t 0) (opT X s t 1) (opT X s t 2) (opT X s t 3) = 0 at hord
  rw [hop] at hord
  rw [hop] at HNX
  obtain ⟨a, ea⟩ : ∃ x, opT X s t 1 = x := ⟨_, rfl⟩
  obtain ⟨b, eb⟩ : ∃ x, opT X s t 2 = x := ⟨_, rfl⟩
  obtain ⟨c, ec⟩ : ∃ x, opT X s t 3 = x := ⟨_, rfl⟩
  rw [ea, eb, ec] at hord HNX ⊢
  clear ea eb ec
  obtain ⟨ia, rfl, ha⟩ := toN (ok_lock (Or.inr rfl) hord)
  have hwl : s.words.length = m := hx.ho.words
  have hol : s.own.length = lk := hx.ho.own
  have hm64 := hx.hc.m64
  have hlk4 := hx.hc.lk4
  have hw3 := hx.ho.wlen t hx.ht
  have hthn := hx.ho.ths
  have hpn4 := hx.hc.n4
  have hsl : (stepS s t).ths.length = s.ths.length := stepS_len s t
  have hsw : (thOf (stepS s t) t).wait.length ≤ 3 := by rw [stepS_wait htl]; exact hw3
  have hmode := hx.hm
  have hBw := hx.hB
  obtain ⟨VO, eO⟩ : ∃ x, s.own.getD ia 0 = x := ⟨_, rfl⟩
  have HVO : Hid (s.own.getD ia 0 = VO) := eO
  clear eO
  obtain ⟨ws, hws⟩ : ∃ x, (thOf s t).wait = x := ⟨_, rfl⟩
  have HWS : Hid ((thOf s t).wait = ws) := hws
  rw [hws] at hw3
  clear hws
  have HFELL : Hid (VO ≠ (t : Int) ∨ (ws.any fun x => x.lk && decide (x.wh = (ia : Int))) = true → orderX P.mode (stepS s t) t 18 (ia : Int) b c = fallX (stepS s t)) := fun h => by
    show (if (stepS s t).own.getD ia 0 ≠ (t : Int) ∨ ((thOf (stepS s t) t).wait.any fun x => x.lk && decide (x.wh = (ia : Int))) = true then fallX (stepS s t) else _) = _
    rw [stepS_wait htl, HWS.out, if_pos (by show s.own.getD ia 0 ≠ (t : Int) ∨ _; rw [HVO.out]; exact h)]
  have HSTORE : Hid (VO = (t : Int) → (ws.any fun x => x.lk && decide (x.wh = (ia : Int))) = false → orderX P.mode (stepS s t) t 18 (ia : Int) b c = storeW P.mode (stepS s t) t ⟨true, (ia : Int), 0⟩) := fun h1 h2 => by
    show (if (stepS s t).own.getD ia 0 ≠ (t : Int) ∨ ((thOf (stepS s t) t).wait.any fun x => x.lk && decide (x.wh = (ia : Int))) = true then _ else storeW P.mode (stepS s t) t ⟨true, (ia : Int), 0⟩) = _
    rw [stepS_wait htl, HWS.out, h2, if_neg (by show ¬ (s.own.getD ia 0 ≠ (t : Int) ∨ _); rw [HVO.out]; simpa using h1)]
  have HX := Hid.out (p := Hid _) hx
  clear hx hord hop hsz
  go_enter Tryd.func81, Tryd.ntmps81
  go_wp2_with fail
  refine Calls.mono HNX.out ?_
  rintro e w1 ⟨rfl, hb1⟩
  have HP := HPRE.out w1 hb1
  have d5 := HP.c5
  have dp := HP.cp
  have df := HP.cf
  have dr := HP.cr
  have nrt := HP.nrt
  have ntr := HP.ntr
  have lrb := HP.lrb
  have ltb := HP.ltb
  have nst := HP.nst
  have nts := HP.nts
  have lsb := HP.lsb
  obtain ⟨ob, oc, hov, hob, hlo⟩ := HP.D.ownB (by show 0 < s.own.length; omega)
  have nto := HP.D.fam.ne HP.btb hob (by simp)
  have not := HP.D.fam.ne hob HP.btb (by simp)
  have c7 := HP.D.c7
  rw [hov, show (stepS s t).own.length = s.own.length from rfl, hol] at c7
  have c7' := (World.cell?_of_block (w := w1) (a := ⟨sb, 7, none⟩) (Below.heap_setCell _ _ _ _ HP.nst)).symm.trans c7
  have co := HP.D.owner hob (r := ia) (by show ia < s.own.length; omega)
  have co' := (World.cell?_of_block (w := w1) (a := ⟨ob, ia, none⟩) (Below.heap_setCell _ _ _ _ not)).symm.trans co
  rw [show (stepS s t).own.getD ia 0 = s.own.getD ia 0 from rfl, HVO.out] at co'
  have lob : ob < w1.heap.size := by simpa [World.setCell] using hlo
  have f9 := (World.frozen?_of_block (w := w1) (a := ⟨sb, 9, none⟩) (Below.heap_setCell _ _ _ _ HP.nst)).symm.trans (HP.D.fam.frozen HP.D.bblk 9)
  have c9 := (World.cell?_of_block (w := w1) (a := ⟨sb, 9, none⟩) (Below.heap_setCell _ _ _ _ HP.nst)).symm.trans HP.D.c9
  obtain ⟨fl, efl⟩ : ∃ x, (stepS s t).fell = x := ⟨_, rfl⟩
  rw [efl] at c9
  clear efl
  have HFALL : Hid (∀ o, DSt (((w1.setCell ⟨tb, t * 3, none⟩ (.int .i64 ((pc : Int) + 1))).alloc o).setCell ⟨sb, 9, none⟩ (.bool true)) B P sb v (fallX (stepS s t)) ∧ Moved w (((w1.setCell ⟨tb, t * 3, none⟩ (.int .i64 ((pc : Int) + 1))).alloc o).setCell ⟨sb, 9, none⟩ (.bool true)) v v) := fun o => ⟨(HP.D.alloc o).fall, (HP.M.alloc o).put HP.D.bblk 9 _⟩
  by_cases hown : VO = (t : Int)
  · subst hown
    obtain ⟨qa, qc, hq⟩ := HP.D.waitV t
    rw [stepS_wait htl, HWS.out] at hq
    have cq := HP.D.wait HP.btb (t := t) (by rw [hsl]; exact htl)
    rw [hq] at cq
    have cq' : w1.cell? ⟨tb, t * 3 + 2, none⟩ = some (.slice qa ws.length qc) := by
      have h2 := (HX.out.hs.below hb1).wait HP.btb htl
      rwa [hq] at h2
    have HWIN : Hid (WIn w1 qa ws) := by
      have h2 := (HX.out.hs.below hb1).win (t := t) (a := qa) (c := qc) (by rw [HWS.out]; exact hq)
      rwa [HWS.out] at h2
    have nwt : Hid (∀ g, qa = some ⟨g, 0, none⟩ → g ≠ tb) := fun g e => HP.D.fam.ne (r := .wait t) (q := .thr) (by rw [hq, e]; rfl) HP.btb (by simp)
    have HQ0 : Hid (∀ g o, qa = some ⟨g, o, none⟩ → o = 0 ∧ g ≠ tb ∧ g < w1.heap.size) := fun g o e => by
      have h3 := HP.D.fam.own (.wait t)
      rw [hq, e] at h3
      rcases h3.2 with ⟨h4, _⟩ | ⟨g', cap, cur, h4, _, _⟩
      · simp at h4
      · simp only [Value.slice.injEq, Option.some.injEq, Addr.mk.injEq] at h4
        obtain ⟨⟨h5, h6, _⟩, _⟩ := h4
        refine ⟨h6, nwt.out g (by rw [e, h6]), ?_⟩
        have := HP.D.fam.lt (r := .wait t) (g := g) (by rw [hq, e]; rfl)
        simpa [World.setCell] using this
    have HC : Hid (∀ W, W.heap = ((w1.setCell ⟨tb, t * 3, none⟩ (.int .i64 ((pc : Int) + 1))).alloc (.cells #[.int .i64 18, .int .i64 (ia : Int), .int .i64 b, .int .i64 c] 44)).heap → W.os = w1.os → W.tape = w1.tape → W.output = w1.output → Calls Tryd.prog 119 #[.pointer (some ⟨sb, 0, none⟩), .int .i64 t, .agg #[.bool true, .int .i64 (ia : Int), .int .i64 0]] W fun e w' => e = .returned (.tuple #[]) ∧ ∃ v', DSt w' B P sb v' (storeW P.mode (stepS s t) t ⟨true, (ia : Int), 0⟩) ∧ Moved w w' v v') := fun W e1 e2 e3 e4 =>
      (store_any W B sb P v (stepS s t) t ⟨true, (ia : Int), 0⟩ (DSt.same (HP.D.alloc _) e1) (by rw [e1]; have := (HP.M.alloc (.cells #[.int .i64 18, .int .i64 (ia : Int), .int .i64 b, .int .i64 c] 44)).size; omega) hmode (by rw [hsl]; exact htl) (by rw [hsl]; omega) hsw (by show (0 : Int) ≤ (ia : Int); omega) (by show (ia : Int) < ((s.own.length : Nat) : Int); omega) (by show s.words.length ≤ 64; omega) (by show s.own.length ≤ 4; omega)).mono fun e w' ⟨h1, v', h2, h3⟩ => ⟨h1, v', h2, (Moved.same (HP.M.alloc _) e1 e2 e3 e4).trans h3⟩
    have KQ := cell_up cq (.cells #[.int .i64 18, .int .i64 (ia : Int), .int .i64 b, .int .i64 c] 44)
    have KI : ((w1.setCell ⟨tb, t * 3, none⟩ (.int .i64 ((pc : Int) + 1))).alloc (.cells #[.int .i64 18, .int .i64 (ia : Int), .int .i64 b, .int .i64 c] 44)).cell? ⟨w1.heap.size, 1, none⟩ = some (.int .i64 (ia : Int)) := by go_simp
    obtain ⟨k, hk⟩ : ∃ x, ws.length = x := ⟨_, rfl⟩
    have HK : Hid (ws.length = k) := hk
    rw [hk] at cq' hw3 KQ
    have HKQ := Hid.out (p := Hid _) KQ
    have HKI := Hid.out (p := Hid _) KI
    clear KQ KI
    clear HP HPRE HNX hov hob c7 co hlo hq cq nwt hk
    go_wp2
    go_quiet (fail)
    go_wp2
    go_loopw [12] (fun i wr => ∃ j : Nat, j ≤ k ∧ i = .int .i64 j ∧ Hid (∀ p, p < j → ((ws.getD p default).lk && decide ((ws.getD p default).wh = (ia : Int))) = false) ∧ wr.heap = ((w1.setCell ⟨tb, t * 3, none⟩ (.int .i64 ((pc : Int) + 1))).alloc (.cells #[.int .i64 18, .int .i64 (ia : Int), .int .i64 b, .int .i64 c] 44)).heap ∧ wr.os = w1.os ∧ wr.tape = w1.tape ∧ wr.output = w1.output) (fun i _ => k - (intOf i).toNat)
    case atStart => exact ⟨0, Nat.zero_le _, rfl, fun p hp => absurd hp (Nat.not_lt_zero _), rfl, rfl, rfl, rfl⟩
    case round =>
      obtain ⟨j, hj, rfl, HJ, eh, eo, et, ep⟩ := hrel
      have hblk : ∀ g, g ≠ tb → g < w1.heap.size → wr.heap[g]? = w1.heap[g]? := fun g h1 h2 => by rw [eh, Below.heap_alloc _ _ _ (by simpa [World.setCell] using h2), Below.heap_setCell _ _ _ _ h1]
      have r9 := (World.frozen?_of_block (w := w1) (a := ⟨sb, 9, none⟩) (hblk sb nst lsb)).trans f9
      have r9c := (World.cell?_of_block (w := w1) (a := ⟨sb, 9, none⟩) (hblk sb nst lsb)).trans c9
      have rq := (World.cell?_of_block (w := (w1.setCell ⟨tb, t * 3, none⟩ (.int .i64 ((pc : Int) + 1))).alloc (.cells #[.int .i64 18, .int .i64 (ia : Int), .int .i64 b, .int .i64 c] 44)) (a := ⟨tb, t * 3 + 2, none⟩) (w' := wr) (by rw [eh])).trans HKQ.out
      have ri := (World.cell?_of_block (w := (w1.setCell ⟨tb, t * 3, none⟩ (.int .i64 ((pc : Int) + 1))).alloc (.cells #[.int .i64 18, .int .i64 (ia : Int), .int .i64 b, .int .i64 c] 44)) (a := ⟨w1.heap.size, 1, none⟩) (w' := wr) (by rw [eh])).trans HKI.out
      have HWR : Hid (∀ i, i < k → ∃ g, qa = some ⟨g, 0, none⟩ ∧ wr.cell? ⟨g, i * 3, none⟩ = some (.bool (ws.getD i default).lk) ∧ wr.cell? ⟨g, i * 3 + 1, none⟩ = some (.int .i64 (ws.getD i default).wh)) := fun i hi => by
        obtain ⟨g, o, e, h1, h2, _⟩ := HWIN.out i (by rw [HK.out]; exact hi)
        obtain ⟨rfl, h4, h5⟩ := HQ0.out g o e
        refine ⟨g, e, ?_, ?_⟩
        · rw [World.cell?_of_block (w := w1) (hblk g h4 h5)]; simpa using h1
        · rw [World.cell?_of_block (w := w1) (hblk g h4 h5)]; simpa using h2
      have HEQ : Hid (wr.heap = ((w1.setCell ⟨tb, t * 3, none⟩ (.int .i64 ((pc : Int) + 1))).alloc (.cells #[.int .i64 18, .int .i64 (ia : Int), .int .i64 b, .int .i64 c] 44)).heap ∧ wr.os = w1.os ∧ wr.tape = w1.tape ∧ wr.output = w1.output) := ⟨eh, eo, et, ep⟩
      clear eh eo et ep hblk
      by_cases hlt : j < k
      · obtain ⟨g, hqa, x0, x1⟩ := HWR.out j hlt
        subst hqa
        obtain ⟨lj, f1⟩ : ∃ v, (ws.getD j default).lk = v := ⟨_, rfl⟩
        obtain ⟨wj, f2⟩ : ∃ v, (ws.getD j default).wh = v := ⟨_, rfl⟩
        have HF1 : Hid ((ws.getD j default).lk = lj) := f1
        have HF2 : Hid ((ws.getD j default).wh = wj) := f2
        rw [f1] at x0
        rw [f2] at x1
        clear f1 f2
        cases lj with
        | true =>
          by_cases hw : wj = (ia : Int)
          · have HST := HFELL.out (Or.inr (by
              rw [List.any_eq_true]
              refine ⟨ws.getD j default, ?_, ?_⟩
              · have h1 : j < ws.length := by rw [HK.out]; exact hlt
                have e : ws.getD j default = ws[j] := by simp [List.getD, List.getElem?_eq_getElem h1]
                rw [e]; exact List.getElem_mem _
              · rw [HF1.out, HF2.out, hw]; simp))
            have HST' := Hid.out (p := Hid _) HST
            clear HST
            subst hw
            go_wp2
            go_quiet (fail)
            go_wp2
            go_end0
            refine ⟨rfl, v, ?_⟩
            rw [Hid.out HST']
            refine ⟨DSt.same (HFALL.out (.cells #[.int .i64 18, .int .i64 (ia : Int), .int .i64 b, .int .i64 c] 44)).1 ?_, Moved.same (HFALL.out (.cells #[.int .i64 18, .int .i64 (ia : Int), .int .i64 b, .int .i64 c] 44)).2 ?_ HEQ.out.2.1 HEQ.out.2.2.1 HEQ.out.2.2.2⟩
            all_goals exact setCell_heap HEQ.out.1
          · go_wp2
            go_quiet (fail)
            go_wp2
            go_roundw
            case rel =>
              refine ⟨j + 1, by omega, by go_num, fun p hp => ?_, HEQ.out.1, HEQ.out.2.1, HEQ.out.2.2.1, HEQ.out.2.2.2⟩
              rcases (by omega : p < j ∨ p = j) with h | rfl
              · exact HJ.out p h
              · rw [HF1.out, HF2.out, decide_eq_false hw]; rfl
            case measure => simp [intOf]; omega
        | false =>
          go_wp2
          go_quiet (fail)
          go_wp2
          go_roundw
          case rel =>
            refine ⟨j + 1, by omega, by go_num, fun p hp => ?_, HEQ.out.1, HEQ.out.2.1, HEQ.out.2.2.1, HEQ.out.2.2.2⟩
            rcases (by omega : p < j ∨ p = j) with h | rfl
            · exact HJ.out p h
            · rw [HF1.out]; rfl
          case measure => simp [intOf]; omega
      · obtain rfl : j = k := by omega
        have HST := HSTORE.out (by first | rfl | trivial) (by
          rw [List.any_eq_false]
          intro x hx
          obtain ⟨p, hp, rfl⟩ := List.mem_iff_getElem.mp hx
          have h2 := HJ.out p (by rw [← HK.out]; exact hp)
          have e : ws.getD p default = ws[p] := by simp [List.getD, List.getElem?_eq_getElem hp]
          rw [e] at h2
          rw [h2]; simp)
        have HST' := Hid.out (p := Hid _) HST
        clear HST
        go_wp2_with fail
        refine Calls.mono (HC.out _ HEQ.out.1 HEQ.out.2.1 HEQ.out.2.2.1 HEQ.out.2.2.2) ?_
        rintro e w2 ⟨rfl, v2, hD2, hM2⟩
        go_wp2_with fail
        go_end0
        refine ⟨rfl, v2, ?_⟩
        rw [Hid.out HST']
        exact ⟨hD2, hM2⟩
  · have hn : ¬ VO = (t : Int) := hown
    have HST := HFELL.out (Or.inl hown)
    have HST' := Hid.out (p := Hid _) HST
    clear HP HPRE HNX hov hob c7 co hlo HST HFELL HSTORE
    go_wp2
    go_quiet (fail)
    go_wp2
    go_end0
    refine ⟨rfl, v, ?_⟩
    rw [Hid.out HST']
    exact ⟨DSt.same (HFALL.out _).1 rfl, Moved.same (HFALL.out _).2 rfl rfl rfl rfl⟩
end

section
open Go.RowKit

def has (f : Nat → Nat) (r : Nat) : Bool := (f (r / 64)).testBit (r % 64)
def W64 (f : Nat → Nat) : Prop := ∀ q, f q < 18446744073709551616
def wth (f : Nat → Nat) (r : Nat) : Nat → Nat := fun q => if q = r / 64 then f q ||| 2 ^ (r % 64) else f q
def clr (a k : Nat) : Nat := (BitVec.ofNat 64 a &&& ~~~ BitVec.ofNat 64 (2 ^ k)).toNat
def wout (f : Nat → Nat) (r : Nat) : Nat → Nat := fun q => if q = r / 64 then clr (f q) (r % 64) else f q
def jnd (f g : Nat → Nat) : Nat → Nat := fun q => f q ||| g q
def noS : Nat → Nat := fun _ => 0

theorem pow_lt64 {k : Nat} (h : k < 64) : 2 ^ k < 18446744073709551616 := Nat.pow_lt_pow_right (by omega) h
theorem clr_bit {a k i : Nat} (ha : a < 18446744073709551616) : (clr a k).testBit i = (a.testBit i && !decide (i = k)) := by
  unfold clr
  rw [BitVec.testBit_toNat, BitVec.getLsbD_and, BitVec.getLsbD_not, BitVec.getLsbD_ofNat, BitVec.getLsbD_ofNat, Nat.testBit_two_pow]
  by_cases hi : i < 64
  · by_cases e : i = k
    · simp [e]
    · simp [hi, e, Ne.symm e]
  · have : a.testBit i = false := Nat.testBit_lt_two_pow (Nat.lt_of_lt_of_le ha (by
      have := Nat.pow_le_pow_right (n := 2) (by omega) (show 64 ≤ i by omega)
      exact this))
    simp [this]
theorem clr_lt (a k : Nat) : clr a k < 18446744073709551616 := (BitVec.ofNat 64 a &&& ~~~ BitVec.ofNat 64 (2 ^ k)).isLt
theorem clr_run (a k : Nat) : bits .andNot .u64 (a : Int) ((2 ^ k : Nat) : Int) = ((clr a k : Nat) : Int) := by
  show IntKind.u64.wrap ((BitVec.ofInt 64 (a : Int) &&& ~~~ BitVec.ofInt 64 ((2 ^ k : Nat) : Int)).toNat : Int) = _
  rw [BitVec.ofInt_natCast, BitVec.ofInt_natCast, IntKind.wrap_u64]
  have := clr_lt a k
  unfold clr at this ⊢
  omega
theorem shl_run {k : Nat} (hk : k < 64) : IntKind.u64.wrap (2 ^ min k 64) = ((2 ^ k : Nat) : Int) := by
  rw [Nat.min_eq_left (Nat.le_of_lt hk), IntKind.wrap_u64]
  have h := pow_lt64 hk
  have e : (2 : Int) ^ k = ((2 ^ k : Nat) : Int) := by simp
  rw [e]
  obtain ⟨p, hp⟩ : ∃ p : Nat, 2 ^ k = p := ⟨_, rfl⟩
  rw [hp] at h ⊢
  omega

theorem has_wth {f : Nat → Nat} {r s : Nat} : has (wth f r) s = (has f s || decide (s = r)) := by
  unfold has wth
  by_cases e : s / 64 = r / 64
  · rw [if_pos e, Nat.testBit_or, Nat.testBit_two_pow]
    congr 1
    rw [decide_eq_decide]
    omega
  · rw [if_neg e]
    have : ¬ s = r := fun h => e (by rw [h])
    simp [this]
theorem has_wout {f : Nat → Nat} {r s : Nat} (hf : W64 f) : has (wout f r) s = (has f s && !decide (s = r)) := by
  unfold has wout
  by_cases e : s / 64 = r / 64
  · rw [if_pos e, clr_bit (hf _)]
    congr 2
    rw [decide_eq_decide]
    omega
  · rw [if_neg e]
    have : ¬ s = r := fun h => e (by rw [h])
    simp [this]
theorem has_jnd {f g : Nat → Nat} {s : Nat} : has (jnd f g) s = (has f s || has g s) := by
  unfold has jnd
  rw [Nat.testBit_or]
theorem has_noS (s : Nat) : has noS s = false := by simp [has, noS]
theorem W64.wth {f : Nat → Nat} (h : W64 f) (r : Nat) : W64 (wth f r) := fun q => by
  unfold Go.Proofs.YtkailbdjilkneaaDoor.wth
  split
  · exact Nat.or_lt_two_pow (n := 64) (h q) (pow_lt64 (Nat.mod_lt _ (by omega)))
  · exact h q
theorem W64.wout {f : Nat → Nat} (h : W64 f) (r : Nat) : W64 (wout f r) := fun q => by
  unfold Go.Proofs.YtkailbdjilkneaaDoor.wout
  split
  · exact clr_lt _ _
  · exact h q
theorem W64.jnd {f g : Nat → Nat} (h : W64 f) (k : W64 g) : W64 (jnd f g) := fun q => Nat.or_lt_two_pow (n := 64) (h q) (k q)
theorem W64.noS : W64 noS := fun _ => by show (0 : Nat) < _; omega

/-! Many registers, many sets. -/
def addS (f : Nat → Nat) (rs : List Int) : Nat → Nat := rs.foldl (fun g r => wth g r.toNat) f
theorem addS_snoc (f : Nat → Nat) (rs : List Int) (r : Int) : addS f (rs ++ [r]) = wth (addS f rs) r.toNat := by simp [addS]
theorem has_addS {s : Nat} : ∀ {rs : List Int} {f : Nat → Nat}, (∀ r, r ∈ rs → 0 ≤ r) → (has (addS f rs) s = true ↔ has f s = true ∨ (s : Int) ∈ rs)
  | [], f, _ => by simp [addS]
  | r :: rs, f, h => by
    show has (addS (wth f r.toNat) rs) s = true ↔ _
    rw [has_addS fun x hx => h x (List.mem_cons_of_mem _ hx), has_wth, Bool.or_eq_true, decide_eq_true_eq, List.mem_cons]
    have := h r List.mem_cons_self
    have e : (s = r.toNat) ↔ ((s : Int) = r) := by omega
    rw [e, or_assoc]
theorem W64.addS : ∀ {rs : List Int} {f : Nat → Nat}, W64 f → W64 (addS f rs)
  | [], _, h => h
  | r :: rs, _, h => W64.addS (rs := rs) (W64.wth h r.toNat)
def jnS (S : Nat → Nat → Nat) (f : Nat → Nat) (js : List Nat) : Nat → Nat := js.foldl (fun g j => jnd g (S j)) f
theorem jnS_snoc (S : Nat → Nat → Nat) (f : Nat → Nat) (js : List Nat) (j : Nat) : jnS S f (js ++ [j]) = jnd (jnS S f js) (S j) := by simp [jnS]
theorem has_jnS {S : Nat → Nat → Nat} {s : Nat} : ∀ {js : List Nat} {f : Nat → Nat}, has (jnS S f js) s = true ↔ has f s = true ∨ ∃ j, j ∈ js ∧ has (S j) s = true
  | [], f => by simp [jnS]
  | j :: js, f => by
    show has (jnS S (jnd f (S j)) js) s = true ↔ _
    rw [has_jnS, has_jnd, Bool.or_eq_true, or_assoc]
    simp
theorem W64.jnS {S : Nat → Nat → Nat} (hS : ∀ j, W64 (S j)) : ∀ {js : List Nat} {f : Nat → Nat}, W64 f → W64 (jnS S f js)
  | [], _, h => h
  | j :: js, _, h => W64.jnS hS (js := js) (W64.jnd h (hS j))

/-- What is live behind order i, and ahead of it, as the sets S stand. -/
def bhF (X : Nat → Nat → Int) (S : Nat → Nat → Nat) (i : Nat) : Nat → Nat := jnS S noS (nxP X i)
def nF (X : Nat → Nat → Int) (S : Nat → Nat → Nat) (i : Nat) : Nat → Nat := addS (if wrX X i = -1 then bhF X S i else wout (bhF X S i) (wrX X i).toNat) (rdX X i)
theorem has_bhF {X : Nat → Nat → Int} {S : Nat → Nat → Nat} {i r : Nat} : has (bhF X S i) r = true ↔ ∃ j, j ∈ nxP X i ∧ has (S j) r = true := by
  unfold bhF
  rw [has_jnS, has_noS]
  simp
section
variable {X : Nat → Nat → Int} {l rg m lk : Nat} {S : Nat → Nat → Nat} {i r : Nat}
theorem W64.bhF (hS : ∀ j, W64 (S j)) : W64 (bhF X S i) := W64.jnS hS W64.noS
theorem W64.nF (hS : ∀ j, W64 (S j)) : W64 (nF X S i) := by
  unfold Go.Proofs.YtkailbdjilkneaaDoor.nF
  refine W64.addS ?_
  split
  · exact W64.bhF hS
  · exact W64.wout (W64.bhF hS) _
theorem has_nF (hok : ordE rg m lk l (X i 0) (X i 1) (X i 2) (X i 3) = 0) (hS : ∀ j, W64 (S j)) : has (nF X S i) r = true ↔ (r : Int) ∈ rdX X i ∨ (wrX X i ≠ (r : Int) ∧ ∃ j, j ∈ nxP X i ∧ has (S j) r = true) := by
  unfold nF
  rw [has_addS (rs := rdX X i) fun x hx => (ok_rd hok x hx).1, or_comm]
  refine or_congr Iff.rfl ?_
  have hw : wrX X i = -1 ∨ 0 ≤ wrX X i ∧ wrX X i < rg := ok_wr hok
  split
  · rename_i e
    rw [e, has_bhF]
    have : ¬ (-1 : Int) = (r : Int) := by omega
    simp [this]
  · rename_i e
    rw [has_wout (W64.bhF hS), Bool.and_eq_true, has_bhF, and_comm]
    refine and_congr ?_ Iff.rfl
    simp
    omega
end

theorem le_of_bits {a b : Nat} (h : ∀ i, a.testBit i = true → b.testBit i = true) : a ≤ b := by
  have e : a = a &&& b := Nat.eq_of_testBit_eq fun i => by
    rw [Nat.testBit_and]
    cases ha : a.testBit i with
    | false => rfl
    | true => rw [h i ha]; rfl
  rw [e]
  exact Nat.and_le_right
theorem le_of_has {f g : Nat → Nat} (hf : W64 f) (h : ∀ r, has f r = true → has g r = true) (q : Nat) : f q ≤ g q := by
  refine le_of_bits fun i hi => ?_
  have hi64 : i < 64 := by
    rcases Nat.lt_or_ge i 64 with h1 | h1
    · exact h1
    · have := Nat.testBit_lt_two_pow (x := f q) (i := i) (Nat.lt_of_lt_of_le (hf q) (by
        have := Nat.pow_le_pow_right (n := 2) (by omega) h1
        exact this))
      rw [this] at hi; cases hi
  have e1 : (q * 64 + i) / 64 = q := by omega
  have e2 : (q * 64 + i) % 64 = i := by omega
  have := h (q * 64 + i) (by unfold has; rw [e1, e2]; exact hi)
  unfold has at this
  rwa [e1, e2] at this

/-- How much all sets of l orders hold, as a number. -/
def sumB (S : Nat → Nat → Nat) : Nat → Nat
  | 0 => 0
  | n + 1 => sumB S n + (S n 0 + S n 1 + S n 2 + S n 3)
theorem sumS_same {S S' : Nat → Nat → Nat} : ∀ {n : Nat}, (∀ i, i < n → S' i = S i) → sumB S' n = sumB S n
  | 0, _ => rfl
  | n + 1, h => by
    show sumB S' n + _ = sumB S n + _
    rw [sumS_same fun i hi => h i (by omega), h n (by omega)]
theorem sumS_more {S S' : Nat → Nat → Nat} {k : Nat} (hne : ∀ i, i ≠ k → S' i = S i) (hlt : S k 0 + S k 1 + S k 2 + S k 3 < S' k 0 + S' k 1 + S' k 2 + S' k 3) : ∀ {n : Nat}, k < n → sumB S n < sumB S' n
  | 0, h => absurd h (Nat.not_lt_zero _)
  | n + 1, h => by
    show sumB S n + _ < sumB S' n + _
    by_cases e : k = n
    · subst e
      rw [sumS_same (S := S) (S' := S') fun i hi => hne i (by omega)]
      omega
    · have := sumS_more hne hlt (n := n) (by omega)
      rw [hne n (fun x => e x.symm)]
      omega
theorem sumS_le {S : Nat → Nat → Nat} (hS : ∀ j, W64 (S j)) : ∀ n, sumB S n ≤ n * 73786976294838206464
  | 0 => Nat.le_refl _
  | n + 1 => by
    have h := sumS_le hS n
    have h0 := hS n 0; have h1 := hS n 1; have h2 := hS n 2; have h3 := hS n 3
    show sumB S n + _ ≤ _
    omega

/-- Two sets are the same four words. -/
def eqS (f g : Nat → Nat) : Prop := f 0 = g 0 ∧ f 1 = g 1 ∧ f 2 = g 2 ∧ f 3 = g 3
theorem eqS.has {f g : Nat → Nat} (h : eqS f g) {r : Nat} (hr : r < 256) : has f r = has g r := by
  unfold Go.Proofs.YtkailbdjilkneaaDoor.has
  rcases (by omega : r / 64 = 0 ∨ r / 64 = 1 ∨ r / 64 = 2 ∨ r / 64 = 3) with e | e | e | e <;> rw [e]
  · rw [h.1]
  · rw [h.2.1]
  · rw [h.2.2.1]
  · rw [h.2.2.2]

/-- A pass of the program's: R as it began, S as it is, k orders still to come; ag: has one been turned? -/
structure PasS (X : Nat → Nat → Int) (l rg m lk : Nat) (R S : Nat → Nat → Nat) (k : Nat) (ag : Bool) : Prop where
  w64 : ∀ j, W64 (S j)
  kl : k ≤ l
  sound : ∀ j r, has (S j) r = true → Lv X l r j
  incr : ∀ i, i < l → ∀ r, has (S i) r = true → has (nF X S i) r = true
  same : ag = false → S = R ∧ ∀ i, k ≤ i → i < l → eqS (nF X R i) (R i)
  less : ag = true → sumB R l < sumB S l
def putS (S : Nat → Nat → Nat) (k : Nat) (f : Nat → Nat) : Nat → Nat → Nat := fun j => if j = k then f else S j
theorem putS_self (S : Nat → Nat → Nat) (k : Nat) (f : Nat → Nat) : putS S k f k = f := by simp [putS]
theorem putS_ne (S : Nat → Nat → Nat) {k j : Nat} (f : Nat → Nat) (h : j ≠ k) : putS S k f j = S j := by simp [putS, h]
section
variable {X : Nat → Nat → Int} {l rg m lk : Nat} {R S : Nat → Nat → Nat} {k : Nat} {ag : Bool}
theorem PasS.zero : PasS X l rg m lk (fun _ => noS) (fun _ => noS) l false :=
  ⟨fun _ => W64.noS, Nat.le_refl _, fun j r h => (by rw [has_noS] at h; cases h), fun i _ r h => (by rw [has_noS] at h; cases h), fun _ => ⟨rfl, fun i h1 h2 => absurd h2 (by omega)⟩, fun h => by cases h⟩
theorem PasS.begin (h : PasS X l rg m lk R S k ag) : PasS X l rg m lk S S l false :=
  ⟨h.w64, Nat.le_refl _, h.sound, h.incr, fun _ => ⟨rfl, fun i h1 h2 => absurd h2 (by omega)⟩, fun e => by cases e⟩
theorem PasS.stay (h : PasS X l rg m lk R S (k + 1) ag) (he : eqS (nF X S k) (S k)) : PasS X l rg m lk R S k ag := by
  refine ⟨h.w64, by have := h.kl; omega, h.sound, h.incr, fun e => ⟨(h.same e).1, fun i hi hil => ?_⟩, h.less⟩
  by_cases ei : i = k
  · rw [ei, ← (h.same e).1]
    exact he
  · exact (h.same e).2 i (by omega) hil
theorem PasS.turn (hok : ∀ i, i < l → ordE rg m lk l (X i 0) (X i 1) (X i 2) (X i 3) = 0) (h : PasS X l rg m lk R S (k + 1) ag) (hne : ¬ eqS (nF X S k) (S k)) : PasS X l rg m lk R (putS S k (nF X S k)) k true := by
  have hk : k < l := by have := h.kl; omega
  have hw : ∀ j, W64 (putS S k (nF X S k) j) := fun j => by
    unfold putS
    split
    · exact W64.nF h.w64
    · exact h.w64 j
  have hmore : ∀ j r, has (S j) r = true → has (putS S k (nF X S k) j) r = true := fun j r hr => by
    unfold putS
    split
    · rename_i e; subst e; exact h.incr j hk r hr
    · exact hr
  have hgrow : ∀ i, i < l → ∀ r, has (nF X S i) r = true → has (nF X (putS S k (nF X S k)) i) r = true := fun i hi r hr => by
    rw [has_nF (hok i hi) h.w64] at hr
    rw [has_nF (hok i hi) hw]
    rcases hr with hr | ⟨h1, j, hj, h2⟩
    · exact Or.inl hr
    · exact Or.inr ⟨h1, j, hj, hmore j r h2⟩
  have hlt : sumB S l < sumB (putS S k (nF X S k)) l := by
    refine sumS_more (fun i hi => putS_ne _ _ hi) ?_ hk
    rw [putS_self]
    have hle := le_of_has (h.w64 k) (h.incr k hk)
    have h0 := hle 0; have h1 := hle 1; have h2 := hle 2; have h3 := hle 3
    rcases Nat.lt_or_ge (S k 0 + S k 1 + S k 2 + S k 3) (nF X S k 0 + nF X S k 1 + nF X S k 2 + nF X S k 3) with h4 | h4
    · exact h4
    · exact absurd ⟨by omega, by omega, by omega, by omega⟩ hne
  refine ⟨hw, by omega, fun j r hr => ?_, fun i hi r hr => ?_, (fun e => by cases e), fun _ => ?_⟩
  · unfold putS at hr
    split at hr
    · rename_i e
      subst e
      rw [has_nF (hok j hk) h.w64] at hr
      rw [lv_iff hk]
      rcases hr with hr | ⟨h1, j', hj, h2⟩
      · exact Or.inl hr
      · exact Or.inr ⟨h1, j', hj, h.sound j' r h2⟩
    · exact h.sound j r hr
  · by_cases ei : i = k
    · subst ei
      rw [putS_self] at hr
      exact hgrow i hi r hr
    · rw [putS_ne _ _ ei] at hr
      exact hgrow i hi r (h.incr i hi r hr)
  · cases ag with
    | true => exact Nat.lt_trans (h.less rfl) hlt
    | false => rw [(h.same rfl).1] at hlt ⊢; exact hlt
theorem PasS.done (hr2 : rg ≤ 200) (hok : ∀ i, i < l → ordE rg m lk l (X i 0) (X i 1) (X i 2) (X i 3) = 0) (h : PasS X l rg m lk R S 0 false) : ∀ i r, has (S i) r = true ↔ Lv X l r i := fun i r => by
  obtain ⟨h1, h2⟩ := h.same rfl
  subst h1
  refine ⟨h.sound i r, fun hl => ?_⟩
  have hrg := hl.reg hok
  induction hl with
  | read hi hr =>
    rw [← (h2 _ (Nat.zero_le _) hi).has (by omega), has_nF (hok _ hi) h.w64]
    exact Or.inl hr
  | pass hi hw hj _ ih =>
    rw [← (h2 _ (Nat.zero_le _) hi).has (by omega), has_nF (hok _ hi) h.w64]
    exact Or.inr ⟨hw, _, hj, ih⟩
end
end

end Go.Proofs.YtkailbdjilkneaaDoor
