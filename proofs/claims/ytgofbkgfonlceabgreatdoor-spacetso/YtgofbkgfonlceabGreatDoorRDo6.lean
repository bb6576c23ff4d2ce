/-
  Moves of the document's run: jumps.
  A move of the document's run: a thread's order, whichever it is.
  What the document's Run goes by: a script's picks, the run as a plain function, the round's invariant.
  What the program looks up and picks in a run: whether threads have ended, which number of the script is taken.
-/
import Derived.Test.YtgofbkgfonlceabGreatDoorRDoP
import Derived.Test.YtgofbkgfonlceabGreatDoorDSt
import Derived.Test.YtgofbkgfonlceabGreatDoorRDo1
import Derived.Test.YtgofbkgfonlceabGreatDoorRDo1b
import Derived.Test.YtgofbkgfonlceabGreatDoorRDo4
import Derived.Test.YtgofbkgfonlceabGreatDoorRBegin
import Derived.Test.YtgofbkgfonlceabGreatDoorPStepP
namespace Go.Proofs.YtgofbkgfonlceabGreatDoor
section
open Go.RowKit

set_option maxRecDepth 100000 in
set_option maxHeartbeats 3200000 in
theorem do_14 (w : World) (B sb : Nat) (P : Pg) (v : Rl → Value) (s : Sx) (A : Nat → Option Addr) (L C : Nat → Nat) (X : Nat → Nat → Nat → Int) (m lk rg t : Nat) (mv : Int) (_h0 : 0 ≤ mv) (_h1 : mv ≤ 1000) (hq : mv / 8 = t) (hr : mv % 8 = 0) (hx : Cx w B sb P v s A L C X m lk rg t) (hop : opT X s t 0 = 14) :
    Calls Tryz.prog 65 #[.pointer (some ⟨sb, 0, none⟩), .int .i64 mv] w (DoQ B sb P v w (orderX P.mode (stepS s t) t 14 (opT X s t 1) (opT X s t 2) (opT X s t 3))) := by
  obtain ⟨n, tb, tc, rb, rc, pc, ⟨htn, hn4, hpc4⟩, HPC, c5, HNX, HPRE⟩ := hx.pre
  have htl : t < s.ths.length := by have := hx.ho.ths; have := hx.ht; omega
  have hrl : (thOf s t).regs.length = rg := hx.ho.regs t hx.ht
  have hord := hx.hc.ord t (thOf s t).pc hx.ht hx.hlt
  have hsz := hx.hc.L4 t hx.ht
  have hrg2 := hx.hc.rg2
  change ordE rg m lk (L t) (opT X s t 0) (opT X s t 1) (opT X s t 2) (opT X s t 3) = 0 at hord
  rw [hop] at hord
  rw [hop] at HNX
  obtain ⟨a, ea⟩ : ∃ x, opT X s t 1 = x := ⟨_, rfl⟩
  obtain ⟨b, eb⟩ : ∃ x, opT X s t 2 = x := ⟨_, rfl⟩
  obtain ⟨c, ec⟩ : ∃ x, opT X s t 3 = x := ⟨_, rfl⟩
  rw [ea, eb, ec] at hord HNX ⊢
  clear ea eb ec
  obtain ⟨ia, rfl, ha⟩ := toN_le (ok_jump hord)
  have hwl : s.words.length = m := hx.ho.words
  have hol : s.own.length = lk := hx.ho.own
  have hm64 := hx.hc.m64
  have hlk4 := hx.hc.lk4
  have hw3 := hx.ho.wlen t hx.ht
  have hthn := hx.ho.ths
  have hpn4 := hx.hc.n4
  have hsl : (stepS s t).ths.length = s.ths.length := stepS_len s t
  have hsw : (thOf (stepS s t) t).wait.length ≤ 3 := by rw [stepS_wait htl]; exact hw3
  have HST : Hid (orderX P.mode (stepS s t) t 14 (ia : Int) b c = setTh s t { thOf s t with pc := ia }) := stepS_jump htl ia
  have HX := Hid.out (p := Hid _) hx
  clear hx hord hop hsz
  go_enter Tryz.func65, Tryz.ntmps65
  go_wp2_with fail
  refine Calls.mono HNX.out ?_
  rintro e w1 ⟨rfl, hb1⟩
  have HP := HPRE.out w1 hb1
  have d5 := HP.c5
  have dp := HP.cp
  have df := HP.cf
  have dr := HP.cr
  have nrt := HP.nrt
  have ntr := HP.ntr
  have lrb := HP.lrb
  have ltb := HP.ltb
  have e3 : setTh (stepS s t) t { thOf (stepS s t) t with pc := ia } = setTh s t { thOf s t with pc := ia } := stepS_jump htl _
  have HF : Hid (DSt (w1.setCell ⟨tb, t * 3, none⟩ (.int .i64 (ia : Int))) B P sb v (setTh s t { thOf s t with pc := ia }) ∧ Moved w (w1.setCell ⟨tb, t * 3, none⟩ (.int .i64 (ia : Int))) v v) := by
    have hs1 := HX.out.hs.below hb1
    exact ⟨hs1.setPc HP.btb htl ia, (Moved.of_below hb1).put HP.btb _ _⟩
  have HG : Hid (DSt ((w1.setCell ⟨tb, t * 3, none⟩ (.int .i64 ((pc : Int) + 1))).setCell ⟨tb, t * 3, none⟩ (.int .i64 (ia : Int))) B P sb v (setTh s t { thOf s t with pc := ia }) ∧ Moved w ((w1.setCell ⟨tb, t * 3, none⟩ (.int .i64 ((pc : Int) + 1))).setCell ⟨tb, t * 3, none⟩ (.int .i64 (ia : Int))) v v) := ⟨by rw [← e3]; exact HP.D.setPc HP.btb (by rw [hsl]; exact htl) ia, HP.M.put HP.btb _ _⟩
  clear HP HPRE HNX e3
  go_wp2
  all_goals go_end0
  all_goals refine ⟨rfl, v, ?_⟩
  all_goals rw [HST.out]
  all_goals first | exact ⟨DSt.same (HF.out.1.alloc _) rfl, Moved.same (HF.out.2.alloc _) rfl rfl rfl rfl⟩ | exact ⟨DSt.same (HG.out.1.alloc _) rfl, Moved.same (HG.out.2.alloc _) rfl rfl rfl rfl⟩

set_option maxRecDepth 100000 in
set_option maxHeartbeats 3200000 in
theorem do_15 (w : World) (B sb : Nat) (P : Pg) (v : Rl → Value) (s : Sx) (A : Nat → Option Addr) (L C : Nat → Nat) (X : Nat → Nat → Nat → Int) (m lk rg t : Nat) (mv : Int) (_h0 : 0 ≤ mv) (_h1 : mv ≤ 1000) (hq : mv / 8 = t) (hr : mv % 8 = 0) (hx : Cx w B sb P v s A L C X m lk rg t) (hop : opT X s t 0 = 15) :
    Calls Tryz.prog 65 #[.pointer (some ⟨sb, 0, none⟩), .int .i64 mv] w (DoQ B sb P v w (orderX P.mode (stepS s t) t 15 (opT X s t 1) (opT X s t 2) (opT X s t 3))) := by
  obtain ⟨n, tb, tc, rb, rc, pc, ⟨htn, hn4, hpc4⟩, HPC, c5, HNX, HPRE⟩ := hx.pre
  have htl : t < s.ths.length := by have := hx.ho.ths; have := hx.ht; omega
  have hrl : (thOf s t).regs.length = rg := hx.ho.regs t hx.ht
  have hord := hx.hc.ord t (thOf s t).pc hx.ht hx.hlt
  have hsz := hx.hc.L4 t hx.ht
  have hrg2 := hx.hc.rg2
  change ordE rg m lk (L t) (opT X s t 0) (opT X s t 1) (opT X s t 2) (opT X s t 3) = 0 at hord
  rw [hop] at hord
  rw [hop] at HNX
  obtain ⟨a, ea⟩ : ∃ x, opT X s t 1 = x := ⟨_, rfl⟩
  obtain ⟨b, eb⟩ : ∃ x, opT X s t 2 = x := ⟨_, rfl⟩
  obtain ⟨c, ec⟩ : ∃ x, opT X s t 3 = x := ⟨_, rfl⟩
  rw [ea, eb, ec] at hord HNX ⊢
  clear ea eb ec
  obtain ⟨⟨ia, rfl, ha⟩, ⟨ib, rfl, hb⟩⟩ := by
    have h3 := ok_zero hord
    exact (⟨toN h3.1, toN_le h3.2⟩ : _ ∧ _)
  have hwl : s.words.length = m := hx.ho.words
  have hol : s.own.length = lk := hx.ho.own
  have hm64 := hx.hc.m64
  have hlk4 := hx.hc.lk4
  have hw3 := hx.ho.wlen t hx.ht
  have hthn := hx.ho.ths
  have hpn4 := hx.hc.n4
  have hsl : (stepS s t).ths.length = s.ths.length := stepS_len s t
  have hsw : (thOf (stepS s t) t).wait.length ≤ 3 := by rw [stepS_wait htl]; exact hw3
  obtain ⟨Va, ea⟩ : ∃ x, getR s t (ia : Int) = x := ⟨_, rfl⟩
  have HVa : Hid (getR s t (ia : Int) = Va) := ea
  clear ea
  by_cases hz : Va = 0
  · subst hz
    have HST : Hid (orderX P.mode (stepS s t) t 15 (ia : Int) (ib : Int) c = setTh s t { thOf s t with pc := ib }) := by
      show (if getR (stepS s t) t (ia : Int) = 0 then setTh (stepS s t) t { thOf (stepS s t) t with pc := ib } else _) = _
      rw [stepS_getR htl, HVa.out, if_pos rfl]
      exact stepS_jump htl ib
    have HX := Hid.out (p := Hid _) hx
    clear hx hord hop hsz
    go_enter Tryz.func65, Tryz.ntmps65
    go_wp2_with fail
    refine Calls.mono HNX.out ?_
    rintro e w1 ⟨rfl, hb1⟩
    have HP := HPRE.out w1 hb1
    have d5 := HP.c5
    have dp := HP.cp
    have df := HP.cf
    have dr := HP.cr
    have nrt := HP.nrt
    have ntr := HP.ntr
    have lrb := HP.lrb
    have ltb := HP.ltb
    have wa := HP.regW htl (r := ia) (by omega)
    rw [HVa.out] at wa
    have e3 : setTh (stepS s t) t { thOf (stepS s t) t with pc := ib } = setTh s t { thOf s t with pc := ib } := stepS_jump htl _
    have HF : Hid (DSt (w1.setCell ⟨tb, t * 3, none⟩ (.int .i64 (ib : Int))) B P sb v (setTh s t { thOf s t with pc := ib }) ∧ Moved w (w1.setCell ⟨tb, t * 3, none⟩ (.int .i64 (ib : Int))) v v) := by
      have hs1 := HX.out.hs.below hb1
      exact ⟨hs1.setPc HP.btb htl ib, (Moved.of_below hb1).put HP.btb _ _⟩
    have HG : Hid (DSt ((w1.setCell ⟨tb, t * 3, none⟩ (.int .i64 ((pc : Int) + 1))).setCell ⟨tb, t * 3, none⟩ (.int .i64 (ib : Int))) B P sb v (setTh s t { thOf s t with pc := ib }) ∧ Moved w ((w1.setCell ⟨tb, t * 3, none⟩ (.int .i64 ((pc : Int) + 1))).setCell ⟨tb, t * 3, none⟩ (.int .i64 (ib : Int))) v v) := ⟨by rw [← e3]; exact HP.D.setPc HP.btb (by rw [hsl]; exact htl) ib, HP.M.put HP.btb _ _⟩
    clear HP HPRE HNX e3
    go_wp2
    all_goals go_end0
    all_goals refine ⟨rfl, v, ?_⟩
    all_goals rw [HST.out]
    all_goals first | exact ⟨DSt.same (HF.out.1.alloc _) rfl, Moved.same (HF.out.2.alloc _) rfl rfl rfl rfl⟩ | exact ⟨DSt.same (HG.out.1.alloc _) rfl, Moved.same (HG.out.2.alloc _) rfl rfl rfl rfl⟩
  · have HST : Hid (orderX P.mode (stepS s t) t 15 (ia : Int) (ib : Int) c = stepS s t) := by
      show (if getR (stepS s t) t (ia : Int) = 0 then _ else stepS s t) = _
      rw [stepS_getR htl, HVa.out, if_neg hz]
    have HX := Hid.out (p := Hid _) hx
    clear hx hord hop hsz
    go_enter Tryz.func65, Tryz.ntmps65
    go_wp2_with fail
    refine Calls.mono HNX.out ?_
    rintro e w1 ⟨rfl, hb1⟩
    have HP := HPRE.out w1 hb1
    have d5 := HP.c5
    have dp := HP.cp
    have df := HP.cf
    have dr := HP.cr
    have nrt := HP.nrt
    have ntr := HP.ntr
    have lrb := HP.lrb
    have ltb := HP.ltb
    have wa := HP.regW htl (r := ia) (by omega)
    rw [HVa.out] at wa
    have HF : Hid (DSt (w1.setCell ⟨tb, t * 3, none⟩ (.int .i64 ((pc : Int) + 1))) B P sb v (stepS s t) ∧ Moved w (w1.setCell ⟨tb, t * 3, none⟩ (.int .i64 ((pc : Int) + 1))) v v) := ⟨HP.D, HP.M⟩
    clear HP HPRE HNX
    go_wp2
    all_goals go_end0
    all_goals refine ⟨rfl, v, ?_⟩
    all_goals rw [HST.out]
    all_goals exact ⟨DSt.same (HF.out.1.alloc _) rfl, Moved.same (HF.out.2.alloc _) rfl rfl rfl rfl⟩
end

section
open Go.RowKit

theorem doX_order {X : Nat → Nat → Nat → Int} {mode : Int} {s : Sx} {t : Nat} : doX X mode s (8 * t) = orderX mode (stepS s t) t (opT X s t 0) (opT X s t 1) (opT X s t 2) (opT X s t 3) := by
  unfold doX
  simp only [show 8 * t / 8 = t by omega, show 8 * t % 8 = 0 by omega]
  rfl
theorem do_order (w : World) (B sb : Nat) (P : Pg) (v : Rl → Value) (s : Sx) (A : Nat → Option Addr) (L C : Nat → Nat) (X : Nat → Nat → Nat → Int) (m lk rg t : Nat) (hx : Cx w B sb P v s A L C X m lk rg t) :
    Calls Tryz.prog 65 #[.pointer (some ⟨sb, 0, none⟩), .int .i64 (8 * (t : Int))] w (DoQ B sb P v w (doX X P.mode s (8 * t))) := by
  have ht : t < P.n := hx.ht
  have hn := hx.hc.n4
  have h0 : 0 ≤ 8 * (t : Int) := by omega
  have h1 : 8 * (t : Int) ≤ 1000 := by omega
  have hq : 8 * (t : Int) / 8 = t := by omega
  have hr : 8 * (t : Int) % 8 = 0 := by omega
  rw [doX_order]
  have hop := ok_op (hx.hc.ord t (thOf s t).pc hx.ht hx.hlt)
  change 1 ≤ opT X s t 0 ∧ opT X s t 0 ≤ 18 at hop
  rcases (by omega : opT X s t 0 = 1 ∨ opT X s t 0 = 2 ∨ opT X s t 0 = 3 ∨ opT X s t 0 = 4 ∨ opT X s t 0 = 5 ∨ opT X s t 0 = 6 ∨ opT X s t 0 = 7 ∨ opT X s t 0 = 8 ∨ opT X s t 0 = 9 ∨ opT X s t 0 = 10 ∨ opT X s t 0 = 11 ∨ opT X s t 0 = 12 ∨ opT X s t 0 = 13 ∨ opT X s t 0 = 14 ∨ opT X s t 0 = 15 ∨ opT X s t 0 = 16 ∨ opT X s t 0 = 17 ∨ opT X s t 0 = 18) with h | h | h | h | h | h | h | h | h | h | h | h | h | h | h | h | h | h
  · rw [h]; exact do_1 w B sb P v s A L C X m lk rg t _ h0 h1 hq hr hx h
  · rw [h]; exact do_2 w B sb P v s A L C X m lk rg t _ h0 h1 hq hr hx h
  · rw [h]; exact do_3 w B sb P v s A L C X m lk rg t _ h0 h1 hq hr hx h
  · rw [h]; exact do_4 w B sb P v s A L C X m lk rg t _ h0 h1 hq hr hx h
  · rw [h]; exact do_5 w B sb P v s A L C X m lk rg t _ h0 h1 hq hr hx h
  · rw [h]; exact do_6 w B sb P v s A L C X m lk rg t _ h0 h1 hq hr hx h
  · rw [h]; exact do_7 w B sb P v s A L C X m lk rg t _ h0 h1 hq hr hx h
  · rw [h]; exact do_8 w B sb P v s A L C X m lk rg t _ h0 h1 hq hr hx h
  · rw [h]; exact do_9 w B sb P v s A L C X m lk rg t _ h0 h1 hq hr hx h
  · rw [h]; exact do_10 w B sb P v s A L C X m lk rg t _ h0 h1 hq hr hx h
  · rw [h]; exact do_11 w B sb P v s A L C X m lk rg t _ h0 h1 hq hr hx h
  · rw [h]; exact do_12 w B sb P v s A L C X m lk rg t _ h0 h1 hq hr hx h
  · rw [h]; exact do_13 w B sb P v s A L C X m lk rg t _ h0 h1 hq hr hx h
  · rw [h]; exact do_14 w B sb P v s A L C X m lk rg t _ h0 h1 hq hr hx h
  · rw [h]; exact do_15 w B sb P v s A L C X m lk rg t _ h0 h1 hq hr hx h
  · rw [h]; exact do_16 w B sb P v s A L C X m lk rg t _ h0 h1 hq hr hx h
  · rw [h]; exact do_17 w B sb P v s A L C X m lk rg t _ h0 h1 hq hr hx h
  · rw [h]; exact do_18 w B sb P v s A L C X m lk rg t _ h0 h1 hq hr hx h

theorem SOk.step {n : Nat} {L : Nat → Nat} {X : Nat → Nat → Nat → Int} {m lk rg : Nat} {mode : Int} {s : Sx} (h : SOk n L m lk rg mode s) (hc : COk n L X m lk rg) (hm : 0 ≤ mode) {t : Nat} (ht : t < n) (ha : ableT L X s t = true) : SOk n L m lk rg mode (doX X mode s (8 * t)) := by
  rw [doX_order]
  have hlt := able_lt ha
  have h1 : SOk n L m lk rg mode (stepS s t) := h.setPc ht (by omega)
  have htl : t < s.ths.length := by rw [h.ths]; exact ht
  exact h1.order ht hm (fun ho => by rw [stepS_wait htl]; exact able_room ha ho) (hc.ord t _ ht hlt)
theorem prints_step {X : Nat → Nat → Nat → Int} {mode : Int} {s : Sx} {t : Nat} : (doX X mode s (8 * t)).prints.length ≤ s.prints.length + 2 := by
  rw [doX_order]
  exact prints_order (stepS s t) t _ _ _ _
end

section
open Go.RowKit

/-- What can be picked can be done. -/
def DoOk (P : Pg) (A : Nat → Option Addr) (L C : Nat → Nat) (X : Nat → Nat → Nat → Int) (m lk rg : Nat) : Prop :=
  ∀ (w : World) (B sb : Nat) (v : Rl → Value) (s : Sx) (mv : Int), DSt w B P sb v s → B ≤ w.heap.size → SOk P.n L m lk rg P.mode s → PIn w P.ca P.n A L C X → s.prints.length ≤ 20000 → mv ∈ movesX L X P.mode s →
    Calls Tryz.prog 65 #[.pointer (some ⟨sb, 0, none⟩), .int .i64 mv] w (DoQ B sb P v w (doX X P.mode s mv.toNat)) ∧ SOk P.n L m lk rg P.mode (doX X P.mode s mv.toNat) ∧ (doX X P.mode s mv.toNat).prints.length ≤ s.prints.length + 2
theorem begin_ok {n : Nat} {L : Nat → Nat} {words : List Int} {lk rg : Nat} {mode : Int} : SOk n L words.length lk rg mode (beginX n words lk rg) := by
  have e : ∀ t, t < n → thOf (beginX n words lk rg) t = { pc := 0, regs := List.replicate ((rg : Int)).toNat 0, wait := [] } := fun t ht => by
    unfold thOf beginX
    simp [List.getD, ht]
  refine ⟨by simp [beginX], fun t ht => ?_, fun t ht => ?_, rfl, by simp [beginX], fun t ht => ?_, fun t ht => ?_, fun _ t ht => ?_⟩
  all_goals rw [e t ht]
  · exact Nat.zero_le _
  · simp
  · simp
  · intro x hx; cases hx

theorem cell_set (w : World) (b o : Nat) (x : Value) : (w.setCell ⟨b, o, none⟩ x).cell? ⟨b, o, none⟩ = if (w.cell? ⟨b, o, none⟩).isSome then some x else none := by
  unfold World.cell? World.setCell
  simp only [Array.getElem?_modify, if_true]
  cases h : w.heap[b]? with
  | none => simp
  | some ob =>
    cases ob with
    | cells c e f =>
      simp only [Option.map_some, Option.isSome_none, Bool.false_eq_true, if_false]
      rw [Array.getElem?_setIfInBounds]
      by_cases ho : o < c.size
      · simp [ho]
      · simp [ho]
    | _ => simp
/-- What is known in a round of a run. -/
structure Rnd (w wr : World) (B sb : Nat) (P : Pg) (v : Rl → Value) (s : Sx) (A : Nat → Option Addr) (L C : Nat → Nat) (X : Nat → Nat → Nat → Int) (m lk rg k : Nat) : Prop where
  D : DSt wr B P sb v s
  ok : SOk P.n L m lk rg P.mode s
  pr : s.prints.length ≤ 2 * k
  low : Below B w wr
  prog : PIn wr P.ca P.n A L C X
theorem Rnd.below {w wr w1 : World} {B sb : Nat} {P : Pg} {v : Rl → Value} {s : Sx} {A : Nat → Option Addr} {L C : Nat → Nat} {X : Nat → Nat → Nat → Int} {m lk rg k : Nat} (h : Rnd w wr B sb P v s A L C X m lk rg k) (hB : B ≤ wr.heap.size) (hb : Below wr.heap.size wr w1) : Rnd w w1 B sb P v s A L C X m lk rg k :=
  ⟨h.D.below hb, h.ok, h.pr, h.low.trans (hb.mono hB), h.prog.below hb⟩
end

section
open Go.RowKit

set_option maxRecDepth 100000 in
set_option maxHeartbeats 1600000 in
theorem tended_any (w : World) (B : Nat) (Q : Cd) (sb mb : Nat) (v : Rp → Value) (s : Sx) (tb t : Nat) (hs : QSt w B Q sb mb v s) (htb : (v .thr).ownBlock = some tb) (ht : t < s.ths.length) (_hn : s.ths.length ≤ 4) (_hL : Q.L t ≤ 400) (hpc : (thOf s t).pc ≤ Q.L t) :
    Calls Tryz.prog 87 #[.pointer (some ⟨tb, t * 3, none⟩)] w fun e w' => e = .returned (.bool (endedT Q.L s t)) ∧ ∃ k, w' = w.drewN k := by
  have c0 := hs.code htb ht
  have c1 := hs.pc htb ht
  have hr : endedT Q.L s t = decide ((thOf s t).pc = Q.L t) := by
    unfold endedT
    exact decide_eq_decide.2 (by omega)
  rw [hr]
  obtain ⟨pc, hp⟩ : ∃ x, (thOf s t).pc = x := ⟨_, rfl⟩
  obtain ⟨l, hl⟩ : ∃ x, Q.L t = x := ⟨_, rfl⟩
  rw [hp] at c1 hpc ⊢
  rw [hl] at c0 _hL hpc ⊢
  clear hs hr hp hl htb
  go_enter Tryz.func87, Tryz.ntmps87
  go_wp2
  go_quiet (fail)
  go_wp2
  go_ret
  exact ⟨ret_bool (by rw [Bool.eq_iff_iff]; simp; omega), nq, rfl⟩

/-- Have all threads ended? -/
def allEnded (L : Nat → Nat) (s : Sx) : Bool := (List.range s.ths.length).all fun t => endedT L s t
theorem ended_bare {L : Nat → Nat} {s : Sx} (h : ∀ t, t < s.ths.length → (thOf s t).wait = []) : endedX L s = allEnded L s := by
  unfold endedX allEnded
  rw [Bool.eq_iff_iff, List.all_eq_true, List.all_eq_true]
  constructor
  · intro h1 t ht
    have := h1 t ht
    simp at this
    exact this.1
  · intro h1 t ht
    rw [h1 t ht, h t (by simpa using ht)]
    rfl

set_option maxRecDepth 100000 in
set_option maxHeartbeats 1600000 in
theorem rest_any (w : World) (B : Nat) (Q : Cd) (sb mb : Nat) (v : Rp → Value) (s : Sx) (n : Nat) (hs : QSt w B Q sb mb v s) (hn : s.ths.length = n) (h0 : 0 < n) (h4 : n ≤ 4) (hL : ∀ t, t < n → Q.L t ≤ 400) (hpc : ∀ t, t < n → (thOf s t).pc ≤ Q.L t) :
    Calls Tryz.prog 50 #[.pointer (some ⟨sb, 0, none⟩)] w fun e w' => e = .returned (.int .i64 (if allEnded Q.L s then 0 else 2)) ∧ Below w.heap.size w w' := by
  obtain ⟨tb, tc, hth, htb, _⟩ := hs.blk .thr (by show 0 < s.ths.length; omega)
  have c1 := hs.c1
  rw [hth] at c1
  change w.cell? ⟨sb, 1, none⟩ = some (.slice (some ⟨tb, 0, none⟩) s.ths.length tc) at c1
  rw [hn] at c1
  have HT : Hid (∀ wr t, t < n → Below w.heap.size w wr → Calls Tryz.prog 87 #[.pointer (some ⟨tb, t * 3, none⟩)] wr fun e w' => e = .returned (.bool (endedT Q.L s t)) ∧ ∃ k, w' = wr.drewN k) := fun wr t ht hb =>
    tended_any wr B Q sb mb v s tb t (hs.below hb) htb (by omega) (by omega) (hL t ht) (hpc t ht)
  obtain ⟨r, hr⟩ : ∃ r, allEnded Q.L s = r := ⟨_, rfl⟩
  have HR : Hid (allEnded Q.L s = r) := hr
  have HN : Hid (s.ths.length = n) := hn
  rw [hr]
  clear hr hs hth htb hn hL hpc h0
  go_enter Tryz.func50, Tryz.ntmps50
  go_wp2_with fail
  go_loopw [9] (fun i wr => ∃ j : Nat, j ≤ n ∧ i = .int .i64 j ∧ Hid (∀ p, p < j → endedT Q.L s p = true) ∧ Below w.heap.size w wr) (fun i _ => n - (intOf i).toNat)
  case atStart => exact ⟨0, Nat.zero_le _, rfl, fun p hp => absurd hp (Nat.not_lt_zero _), Below.refl _ _⟩
  case round =>
    obtain ⟨j, hj, rfl, HJ, hbr⟩ := hrel
    have c1r := (hbr.cell (lt_of_cell c1)).trans c1
    by_cases hlt : j < n
    · have HC := Hid.out (p := Hid _) (HT.out _ j hlt hbr)
      go_wp2_with fail
      refine Calls.mono HC.out ?_
      rintro e w1 ⟨rfl, kd, rfl⟩
      cases he : endedT Q.L s j with
      | true =>
        have HE : Hid (endedT Q.L s j = true) := he
        clear he HC
        go_wp2
        go_roundw
        case rel =>
          refine ⟨j + 1, by omega, by go_num, fun p hp => ?_, below_drewN hbr⟩
          rcases (by omega : p < j ∨ p = j) with h | rfl
          · exact HJ.out p h
          · exact HE.out
        case measure => simp [intOf]; omega
      | false =>
        obtain rfl : r = false := by
          rw [← HR.out]
          unfold allEnded
          rw [List.all_eq_false]
          exact ⟨j, by rw [HN.out]; simpa using hlt, by rw [he]; simp⟩
        clear he HC
        go_wp2
        go_ret
        exact ⟨rfl, below_drewN hbr⟩
    · obtain rfl : r = true := by
        rw [← HR.out]
        unfold allEnded
        rw [List.all_eq_true]
        intro p hp
        rw [HN.out] at hp
        exact HJ.out p (by simp at hp; omega)
      go_wp2
      go_ret
      exact ⟨rfl, hbr⟩
/-- Where nothing can be picked nothing waits. -/
theorem moves_bare {L : Nat → Nat} {X : Nat → Nat → Nat → Int} {mode : Int} {s : Sx} (h : movesX L X mode s = []) {t : Nat} (ht : t < s.ths.length) : (thOf s t).wait = [] := by
  unfold movesX at h
  rw [List.flatMap_eq_nil_iff] at h
  have h1 := h t (by simpa using ht)
  unfold movesT at h1
  rw [List.append_eq_nil_iff] at h1
  have h2 := h1.2
  rw [List.map_eq_nil_iff, List.filter_eq_nil_iff] at h2
  cases hw : (thOf s t).wait with
  | nil => rfl
  | cons a l => exact absurd (show mayW mode (thOf s t).wait 0 = true from rfl) (h2 0 (by simp [hw]))
end

end Go.Proofs.YtgofbkgfonlceabGreatDoor
