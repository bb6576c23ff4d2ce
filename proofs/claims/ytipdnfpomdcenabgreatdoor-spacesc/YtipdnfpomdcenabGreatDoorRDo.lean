/-
  A move of the document's run: a thread's order, whichever it is.
  What the document's Run goes by: a script's picks, the run as a plain function, the round's invariant.
  What the program looks up and picks in a run: whether threads have ended, which number of the script is taken.
-/
import Derived.Test.YtipdnfpomdcenabGreatDoorRDoP
import Derived.Test.YtipdnfpomdcenabGreatDoorRDo1
import Derived.Test.YtipdnfpomdcenabGreatDoorRDo2
import Derived.Test.YtipdnfpomdcenabGreatDoorRDo5
import Derived.Test.YtipdnfpomdcenabGreatDoorDSt2
import Derived.Test.YtipdnfpomdcenabGreatDoorPStepP
namespace Go.Proofs.YtipdnfpomdcenabGreatDoor
section
open Go.RowKit

theorem doX_order {X : Nat → Nat → Nat → Int} {mode : Int} {s : Sx} {t : Nat} : doX X mode s (8 * t) = orderX mode (stepS s t) t (opT X s t 0) (opT X s t 1) (opT X s t 2) (opT X s t 3) := by
  unfold doX
  simp only [show 8 * t / 8 = t by omega, show 8 * t % 8 = 0 by omega]
  rfl
theorem do_order (w : World) (B sb : Nat) (P : Pg) (v : Rl → Value) (s : Sx) (A : Nat → Option Addr) (L C : Nat → Nat) (X : Nat → Nat → Nat → Int) (m lk rg t : Nat) (hx : Cx w B sb P v s A L C X m lk rg t) :
    Calls Tryz.prog 65 #[.pointer (some ⟨sb, 0, none⟩), .int .i64 (8 * (t : Int))] w (DoQ B sb P v w (doX X P.mode s (8 * t))) := by
  have ht : t < P.n := hx.ht
  have hn := hx.hc.n4
  have h0 : 0 ≤ 8 * (t : Int) := by omega
  have h1 : 8 * (t : Int) ≤ 1000 := by omega
  have hq : 8 * (t : Int) / 8 = t := by omega
  have hr : 8 * (t : Int) % 8 = 0 := by omega
  rw [doX_order]
  have hop := ok_op (hx.hc.ord t (thOf s t).pc hx.ht hx.hlt)
  change 1 ≤ opT X s t 0 ∧ opT X s t 0 ≤ 18 at hop
  rcases (by omega : opT X s t 0 = 1 ∨ opT X s t 0 = 2 ∨ opT X s t 0 = 3 ∨ opT X s t 0 = 4 ∨ opT X s t 0 = 5 ∨ opT X s t 0 = 6 ∨ opT X s t 0 = 7 ∨ opT X s t 0 = 8 ∨ opT X s t 0 = 9 ∨ opT X s t 0 = 10 ∨ opT X s t 0 = 11 ∨ opT X s t 0 = 12 ∨ opT X s t 0 = 13 ∨ opT X s t 0 = 14 ∨ opT X s t 0 = 15 ∨ opT X s t 0 = 16 ∨ opT X s t 0 = 17 ∨ opT X s t 0 = 18) with h | h | h | h | h | h | h | h | h | h | h | h | h | h | h | h | h | h
  · rw [h]; exact do_1 w B sb P v s A L C X m lk rg t _ h0 h1 hq hr hx h
  · rw [h]; exact do_2 w B sb P v s A L C X m lk rg t _ h0 h1 hq hr hx h
  · rw [h]; exact do_3 w B sb P v s A L C X m lk rg t _ h0 h1 hq hr hx h
  · rw [h]; exact do_4 w B sb P v s A L C X m lk rg t _ h0 h1 hq hr hx h
  · rw [h]; exact do_5 w B sb P v s A L C X m lk rg t _ h0 h1 hq hr hx h
  · rw [h]; exact do_6 w B sb P v s A L C X m lk rg t _ h0 h1 hq hr hx h
  · rw [h]; exact do_7 w B sb P v s A L C X m lk rg t _ h0 h1 hq hr hx h
  · rw [h]; exact do_8 w B sb P v s A L C X m lk rg t _ h0 h1 hq hr hx h
  · rw [h]; exact do_9 w B sb P v s A L C X m lk rg t _ h0 h1 hq hr hx h
  · rw [h]; exact do_10 w B sb P v s A L C X m lk rg t _ h0 h1 hq hr hx h
  · rw [h]; exact do_11 w B sb P v s A L C X m lk rg t _ h0 h1 hq hr hx h
  · rw [h]; exact do_12 w B sb P v s A L C X m lk rg t _ h0 h1 hq hr hx h
  · rw [h]; exact do_13 w B sb P v s A L C X m lk rg t _ h0 h1 hq hr hx h
  · rw [h]; exact do_14 w B sb P v s A L C X m lk rg t _ h0 h1 hq hr hx h
  · rw [h]; exact do_15 w B sb P v s A L C X m lk rg t _ h0 h1 hq hr hx h
  · rw [h]; exact do_16 w B sb P v s A L C X m lk rg t _ h0 h1 hq hr hx h
  · rw [h]; exact do_17 w B sb P v s A L C X m lk rg t _ h0 h1 hq hr hx h
  · rw [h]; exact do_18 w B sb P v s A L C X m lk rg t _ h0 h1 hq hr hx h

theorem SOk.step {n : Nat} {L : Nat → Nat} {X : Nat → Nat → Nat → Int} {m lk rg : Nat} {mode : Int} {s : Sx} (h : SOk n L m lk rg mode s) (hc : COk n L X m lk rg) (hm : 0 ≤ mode) {t : Nat} (ht : t < n) (ha : ableT L X s t = true) : SOk n L m lk rg mode (doX X mode s (8 * t)) := by
  rw [doX_order]
  have hlt := able_lt ha
  have h1 : SOk n L m lk rg mode (stepS s t) := h.setPc ht (by omega)
  have htl : t < s.ths.length := by rw [h.ths]; exact ht
  exact h1.order ht hm (fun ho => by rw [stepS_wait htl]; exact able_room ha ho) (hc.ord t _ ht hlt)
theorem prints_step {X : Nat → Nat → Nat → Int} {mode : Int} {s : Sx} {t : Nat} : (doX X mode s (8 * t)).prints.length ≤ s.prints.length + 2 := by
  rw [doX_order]
  exact prints_order (stepS s t) t _ _ _ _
end

section
open Go.RowKit

/-- What is picked by a number of the script. -/
theorem rem_pick (x : Int) {n : Nat} (hn : 0 < n) : (if x.tmod n < 0 then x.tmod n + n else x.tmod n) = x.emod n := by
  have h1 := Int.tmod_eq_emod (a := x) (b := n)
  have h2 := Int.emod_nonneg x (show (n : Int) ≠ 0 by omega)
  have h3 := Int.emod_lt_of_pos x (show (0 : Int) < n by omega)
  have e : x.emod n = x % n := rfl
  rw [e]
  split at h1
  · rw [if_neg (by omega)]; omega
  · have h4 : x % (n : Int) ≠ 0 := fun h => by
      rename_i h5
      exact h5 (Or.inr (Int.dvd_of_emod_eq_zero h))
    have : ((n : Int).natAbs : Int) = n := by omega
    rw [if_pos (by omega)]; omega
theorem pick_lt (k : Nat) (script : List Int) (hk : 0 < k) : (pickX k script).1 < k := by
  unfold pickX
  split
  · exact hk
  · cases script with
    | nil => exact hk
    | cons x r =>
      have h2 := Int.emod_nonneg x (show (k : Int) ≠ 0 by omega)
      have h3 := Int.emod_lt_of_pos x (show (0 : Int) < k by omega)
      show (x.emod k).toNat < k
      have e : x.emod k = x % k := rfl
      rw [e]; omega

/-- A run goes one step on. -/
theorem run_ended {L : Nat → Nat} {X : Nat → Nat → Nat → Int} {mode : Int} {f : Nat} {s : Sx} {k : Nat} {sc : List Int} (h : endedX L s = true) : runX L X mode f s k sc = (s, 0, k) := by
  unfold runX; rw [if_pos h]
theorem run_stuck {L : Nat → Nat} {X : Nat → Nat → Nat → Int} {mode : Int} {f : Nat} {s : Sx} {k : Nat} {sc : List Int} (h : endedX L s = false) (hm : movesX L X mode s = []) : runX L X mode f s k sc = (s, 2, k) := by
  unfold runX; rw [if_neg (by simp [h])]; simp [hm]
theorem run_out {L : Nat → Nat} {X : Nat → Nat → Nat → Int} {mode : Int} {s : Sx} {k : Nat} {sc : List Int} (h : endedX L s = false) (hm : movesX L X mode s ≠ []) : runX L X mode 0 s k sc = (s, 3, k) := by
  unfold runX; rw [if_neg (by simp [h])]
  have : (movesX L X mode s).isEmpty = false := by cases hh : movesX L X mode s with
    | nil => exact absurd hh hm
    | cons a r => rfl
  simp [this]
theorem run_step {L : Nat → Nat} {X : Nat → Nat → Nat → Int} {mode : Int} {f : Nat} {s : Sx} {k : Nat} {sc : List Int} (h : endedX L s = false) (hm : movesX L X mode s ≠ []) : runX L X mode (f + 1) s k sc =
    (if (doX X mode s ((movesX L X mode s).getD (pickX (movesX L X mode s).length sc).1 0).toNat).fell then (doX X mode s ((movesX L X mode s).getD (pickX (movesX L X mode s).length sc).1 0).toNat, 1, k + 1)
     else runX L X mode f (doX X mode s ((movesX L X mode s).getD (pickX (movesX L X mode s).length sc).1 0).toNat) (k + 1) (pickX (movesX L X mode s).length sc).2) := by
  conv => lhs; unfold runX
  rw [if_neg (by simp [h])]
  have : (movesX L X mode s).isEmpty = false := by cases hh : movesX L X mode s with
    | nil => exact absurd hh hm
    | cons a r => rfl
  simp [this]

/-- What can be picked can be done. -/
def DoOk (P : Pg) (A : Nat → Option Addr) (L C : Nat → Nat) (X : Nat → Nat → Nat → Int) (m lk rg : Nat) : Prop :=
  ∀ (w : World) (B sb : Nat) (v : Rl → Value) (s : Sx) (mv : Int), DSt w B P sb v s → B ≤ w.heap.size → SOk P.n L m lk rg P.mode s → PIn w P.ca P.n A L C X → s.prints.length ≤ 20000 → mv ∈ movesX L X P.mode s →
    Calls Tryz.prog 65 #[.pointer (some ⟨sb, 0, none⟩), .int .i64 mv] w (DoQ B sb P v w (doX X P.mode s mv.toNat)) ∧ SOk P.n L m lk rg P.mode (doX X P.mode s mv.toNat) ∧ (doX X P.mode s mv.toNat).prints.length ≤ s.prints.length + 2
theorem movesX_zero {n : Nat} {L : Nat → Nat} {X : Nat → Nat → Nat → Int} {m lk rg : Nat} {s : Sx} (ho : SOk n L m lk rg 0 s) {mv : Int} (h : mv ∈ movesX L X 0 s) : ∃ t, t < n ∧ mv = 8 * (t : Int) ∧ ableT L X s t = true := by
  unfold movesX at h
  rw [List.mem_flatMap] at h
  obtain ⟨t, ht, h⟩ := h
  have htn : t < n := by rw [← ho.ths]; simpa using ht
  have hb := ho.bare rfl t htn
  unfold movesT at h
  rw [hb] at h
  simp at h
  exact ⟨t, htn, h.2, h.1⟩
theorem doOk_zero {P : Pg} (hm : P.mode = 0) {A : Nat → Option Addr} {L C : Nat → Nat} {X : Nat → Nat → Nat → Int} {m lk rg : Nat} (hc : COk P.n L X m lk rg) : DoOk P A L C X m lk rg := by
  intro w B sb v s mv hs hB ho hp hpr hmv
  rw [hm] at hmv
  have ho' := ho
  rw [hm] at ho'
  obtain ⟨t, ht, rfl, ha⟩ := movesX_zero ho' hmv
  have hx : Cx w B sb P v s A L C X m lk rg t := ⟨ht, hs, hB, ho, hc, hp, able_lt ha, hpr, by omega⟩
  have e : (8 * (t : Int)).toNat = 8 * t := by omega
  rw [e]
  exact ⟨do_order w B sb P v s A L C X m lk rg t hx, ho.step hc (by omega) ht ha, prints_step⟩

/-- What a run's trace is. -/
def TraceQ (w : World) (r : Sx × Int × Nat) (e : Ending) (w' : World) : Prop := ∃ pa pl pc wa wl wc, e = .returned (.agg #[.slice pa pl pc, .int .i64 r.2.1, .slice wa wl wc, .int .i64 (r.2.2 : Nat)]) ∧ IsI w' w.heap.size pa pl pc r.1.prints ∧ IsI w' w.heap.size wa wl wc r.1.words ∧ Below w.heap.size w w'

theorem begin_ok {n : Nat} {L : Nat → Nat} {words : List Int} {lk rg : Nat} {mode : Int} : SOk n L words.length lk rg mode (beginX n words lk rg) := by
  have e : ∀ t, t < n → thOf (beginX n words lk rg) t = { pc := 0, regs := List.replicate ((rg : Int)).toNat 0, wait := [] } := fun t ht => by
    unfold thOf beginX
    simp [List.getD, ht]
  refine ⟨by simp [beginX], fun t ht => ?_, fun t ht => ?_, rfl, by simp [beginX], fun t ht => ?_, fun t ht => ?_, fun _ t ht => ?_⟩
  all_goals rw [e t ht]
  · exact Nat.zero_le _
  · simp
  · simp
  · intro x hx; cases hx

/-- The trace, laid into its block r. -/
theorem trace_fin {w W W' : World} {B sb r : Nat} {P : Pg} {v : Rl → Value} {s : Sx} {x0 x1 x2 x3 : Value} (hs : DSt W B P sb v s) (hr : r < B) (hw : w.heap.size ≤ r) (hb : Below w.heap.size w W)
    (e : W'.heap = ((((W.setCell ⟨r, 0, none⟩ x0).setCell ⟨r, 1, none⟩ x1).setCell ⟨r, 2, none⟩ x2).setCell ⟨r, 3, none⟩ x3).heap) (e1 : W'.os = W.os) (e2 : W'.tape = W.tape) (e3 : W'.output = W.output) {pa wa : Option Addr} {pl pc wl wc : Nat} (hp : v .prints = .slice pa pl pc) (hw' : v .words = .slice wa wl wc) :
    IsI W' w.heap.size pa pl pc s.prints ∧ IsI W' w.heap.size wa wl wc s.words ∧ Below w.heap.size w W' := by
  have hk : ∀ k, k ≠ r → W'.heap[k]? = W.heap[k]? := fun k hk => by
    rw [e, Below.heap_setCell _ _ _ _ hk, Below.heap_setCell _ _ _ _ hk, Below.heap_setCell _ _ _ _ hk, Below.heap_setCell _ _ _ _ hk]
  have hlow := hs.fam.low
  have hsz : W'.heap.size = W.heap.size := by rw [e]; simp [World.setCell]
  refine ⟨?_, ?_, ?_⟩
  · have h1 := fam_keeps (w' := W') (hs.fam.own .prints) (fun g hg => hk g (by have := hlow _ _ hg; omega))
    rw [hp] at h1
    have hl : s.prints.length = pl := by have h2 := h1.1; have h3 := fam_form h1; obtain ⟨_, _, h3⟩ := h3; simp only [Value.slice.injEq] at h3; exact h3.2.1.symm
    refine ⟨hl, own_low ?_ (by omega : w.heap.size ≤ B)⟩
    rw [← hl] at h1 ⊢
    exact h1
  · have h1 := fam_keeps (w' := W') (hs.fam.own .words) (fun g hg => hk g (by have := hlow _ _ hg; omega))
    rw [hw'] at h1
    have hl : s.words.length = wl := by have h2 := h1.1; have h3 := fam_form h1; obtain ⟨_, _, h3⟩ := h3; simp only [Value.slice.injEq] at h3; exact h3.2.1.symm
    refine ⟨hl, own_low ?_ (by omega : w.heap.size ≤ B)⟩
    rw [← hl] at h1 ⊢
    exact h1
  · exact ⟨e1.trans hb.os, e2.trans hb.tape, e3.trans hb.output, by rw [hsz]; exact hb.size, fun k hk' => (hk k (by omega)).trans (hb.block k hk')⟩

theorem cell_set (w : World) (b o : Nat) (x : Value) : (w.setCell ⟨b, o, none⟩ x).cell? ⟨b, o, none⟩ = if (w.cell? ⟨b, o, none⟩).isSome then some x else none := by
  unfold World.cell? World.setCell
  simp only [Array.getElem?_modify, if_true]
  cases h : w.heap[b]? with
  | none => simp
  | some ob =>
    cases ob with
    | cells c e f =>
      simp only [Option.map_some, Option.isSome_none, Bool.false_eq_true, if_false]
      rw [Array.getElem?_setIfInBounds]
      by_cases ho : o < c.size
      · simp [ho]
      · simp [ho]
    | _ => simp
/-- What is known in a round of a run. -/
structure Rnd (w wr : World) (B sb : Nat) (P : Pg) (v : Rl → Value) (s : Sx) (A : Nat → Option Addr) (L C : Nat → Nat) (X : Nat → Nat → Nat → Int) (m lk rg k : Nat) : Prop where
  D : DSt wr B P sb v s
  ok : SOk P.n L m lk rg P.mode s
  pr : s.prints.length ≤ 2 * k
  low : Below B w wr
  prog : PIn wr P.ca P.n A L C X
theorem Rnd.below {w wr w1 : World} {B sb : Nat} {P : Pg} {v : Rl → Value} {s : Sx} {A : Nat → Option Addr} {L C : Nat → Nat} {X : Nat → Nat → Nat → Int} {m lk rg k : Nat} (h : Rnd w wr B sb P v s A L C X m lk rg k) (hB : B ≤ wr.heap.size) (hb : Below wr.heap.size wr w1) : Rnd w w1 B sb P v s A L C X m lk rg k :=
  ⟨h.D.below hb, h.ok, h.pr, h.low.trans (hb.mono hB), h.prog.below hb⟩
/-- What lies in the trace's block, ahead of its store. -/
theorem trace_cells {w W : World} {PC : Obj} (h : Below (w.heap.size + 2) ((w.alloc PC).alloc (.cells #[nilV, .int .i64 0, nilV, .int .i64 0] 46)) W) :
    (W.cell? ⟨w.heap.size + 1, 0, none⟩ = some nilV ∧ W.cell? ⟨w.heap.size + 1, 1, none⟩ = some (.int .i64 0) ∧ W.cell? ⟨w.heap.size + 1, 2, none⟩ = some nilV ∧ W.cell? ⟨w.heap.size + 1, 3, none⟩ = some (.int .i64 0)) ∧ ∀ i, W.frozen? ⟨w.heap.size + 1, i, none⟩ = false := by
  have hblk := h.block (w.heap.size + 1) (by omega)
  have e := heap_alloc_new (w.alloc PC) (.cells #[nilV, .int .i64 0, nilV, .int .i64 0] 46)
  rw [World.size_alloc] at e
  rw [e] at hblk
  refine ⟨⟨?_, ?_, ?_, ?_⟩, fun i => ?_⟩
  all_goals simp [World.cell?, World.frozen?, hblk]
end

section
open Go.RowKit

set_option maxRecDepth 100000 in
set_option maxHeartbeats 1600000 in
theorem tended_any (w : World) (B : Nat) (Q : Cd) (sb mb : Nat) (v : Rp → Value) (s : Sx) (tb t : Nat) (hs : QSt w B Q sb mb v s) (htb : (v .thr).ownBlock = some tb) (ht : t < s.ths.length) (_hn : s.ths.length ≤ 4) (_hL : Q.L t ≤ 400) (hpc : (thOf s t).pc ≤ Q.L t) :
    Calls Tryz.prog 86 #[.pointer (some ⟨tb, t * 3, none⟩)] w fun e w' => e = .returned (.bool (endedT Q.L s t)) ∧ ∃ k, w' = w.drewN k := by
  have c0 := hs.code htb ht
  have c1 := hs.pc htb ht
  have hr : endedT Q.L s t = decide ((thOf s t).pc = Q.L t) := by
    unfold endedT
    exact decide_eq_decide.2 (by omega)
  rw [hr]
  obtain ⟨pc, hp⟩ : ∃ x, (thOf s t).pc = x := ⟨_, rfl⟩
  obtain ⟨l, hl⟩ : ∃ x, Q.L t = x := ⟨_, rfl⟩
  rw [hp] at c1 hpc ⊢
  rw [hl] at c0 _hL hpc ⊢
  clear hs hr hp hl htb
  go_enter Tryz.func86, Tryz.ntmps86
  go_wp2
  go_quiet (fail)
  go_wp2
  go_ret
  exact ⟨ret_bool (by rw [Bool.eq_iff_iff]; simp; omega), nq, rfl⟩

/-- Have all threads ended? -/
def allEnded (L : Nat → Nat) (s : Sx) : Bool := (List.range s.ths.length).all fun t => endedT L s t
theorem ended_bare {L : Nat → Nat} {s : Sx} (h : ∀ t, t < s.ths.length → (thOf s t).wait = []) : endedX L s = allEnded L s := by
  unfold endedX allEnded
  rw [Bool.eq_iff_iff, List.all_eq_true, List.all_eq_true]
  constructor
  · intro h1 t ht
    have := h1 t ht
    simp at this
    exact this.1
  · intro h1 t ht
    rw [h1 t ht, h t (by simpa using ht)]
    rfl

set_option maxRecDepth 100000 in
set_option maxHeartbeats 1600000 in
theorem rest_any (w : World) (B : Nat) (Q : Cd) (sb mb : Nat) (v : Rp → Value) (s : Sx) (n : Nat) (hs : QSt w B Q sb mb v s) (hn : s.ths.length = n) (h0 : 0 < n) (h4 : n ≤ 4) (hL : ∀ t, t < n → Q.L t ≤ 400) (hpc : ∀ t, t < n → (thOf s t).pc ≤ Q.L t) :
    Calls Tryz.prog 51 #[.pointer (some ⟨sb, 0, none⟩)] w fun e w' => e = .returned (.int .i64 (if allEnded Q.L s then 0 else 2)) ∧ Below w.heap.size w w' := by
  obtain ⟨tb, tc, hth, htb, _⟩ := hs.blk .thr (by show 0 < s.ths.length; omega)
  have c1 := hs.c1
  rw [hth] at c1
  change w.cell? ⟨sb, 1, none⟩ = some (.slice (some ⟨tb, 0, none⟩) s.ths.length tc) at c1
  rw [hn] at c1
  have HT : Hid (∀ wr t, t < n → Below w.heap.size w wr → Calls Tryz.prog 86 #[.pointer (some ⟨tb, t * 3, none⟩)] wr fun e w' => e = .returned (.bool (endedT Q.L s t)) ∧ ∃ k, w' = wr.drewN k) := fun wr t ht hb =>
    tended_any wr B Q sb mb v s tb t (hs.below hb) htb (by omega) (by omega) (hL t ht) (hpc t ht)
  obtain ⟨r, hr⟩ : ∃ r, allEnded Q.L s = r := ⟨_, rfl⟩
  have HR : Hid (allEnded Q.L s = r) := hr
  have HN : Hid (s.ths.length = n) := hn
  rw [hr]
  clear hr hs hth htb hn hL hpc h0
  go_enter Tryz.func51, Tryz.ntmps51
  go_wp2_with fail
  go_loopw [9] (fun i wr => ∃ j : Nat, j ≤ n ∧ i = .int .i64 j ∧ Hid (∀ p, p < j → endedT Q.L s p = true) ∧ Below w.heap.size w wr) (fun i _ => n - (intOf i).toNat)
  case atStart => exact ⟨0, Nat.zero_le _, rfl, fun p hp => absurd hp (Nat.not_lt_zero _), Below.refl _ _⟩
  case round =>
    obtain ⟨j, hj, rfl, HJ, hbr⟩ := hrel
    have c1r := (hbr.cell (lt_of_cell c1)).trans c1
    by_cases hlt : j < n
    · have HC := Hid.out (p := Hid _) (HT.out _ j hlt hbr)
      go_wp2_with fail
      refine Calls.mono HC.out ?_
      rintro e w1 ⟨rfl, kd, rfl⟩
      cases he : endedT Q.L s j with
      | true =>
        have HE : Hid (endedT Q.L s j = true) := he
        clear he HC
        go_wp2
        go_roundw
        case rel =>
          refine ⟨j + 1, by omega, by go_num, fun p hp => ?_, below_drewN hbr⟩
          rcases (by omega : p < j ∨ p = j) with h | rfl
          · exact HJ.out p h
          · exact HE.out
        case measure => simp [intOf]; omega
      | false =>
        obtain rfl : r = false := by
          rw [← HR.out]
          unfold allEnded
          rw [List.all_eq_false]
          exact ⟨j, by rw [HN.out]; simpa using hlt, by rw [he]; simp⟩
        clear he HC
        go_wp2
        go_ret
        exact ⟨rfl, below_drewN hbr⟩
    · obtain rfl : r = true := by
        rw [← HR.out]
        unfold allEnded
        rw [List.all_eq_true]
        intro p hp
        rw [HN.out] at hp
        exact HJ.out p (by simp at hp; omega)
      go_wp2
      go_ret
      exact ⟨rfl, hbr⟩
/-- Where nothing can be picked nothing waits. -/
theorem moves_bare {L : Nat → Nat} {X : Nat → Nat → Nat → Int} {mode : Int} {s : Sx} (h : movesX L X mode s = []) {t : Nat} (ht : t < s.ths.length) : (thOf s t).wait = [] := by
  unfold movesX at h
  rw [List.flatMap_eq_nil_iff] at h
  have h1 := h t (by simpa using ht)
  unfold movesT at h1
  rw [List.append_eq_nil_iff] at h1
  have h2 := h1.2
  rw [List.map_eq_nil_iff, List.filter_eq_nil_iff] at h2
  cases hw : (thOf s t).wait with
  | nil => rfl
  | cons a l => exact absurd (show mayW mode (thOf s t).wait 0 = true from rfl) (h2 0 (by simp [hw]))
end

end Go.Proofs.YtipdnfpomdcenabGreatDoor
