/-
  What the document's Run goes by: a script's picks, the run as a plain function, the round's invariant.
-/
import Derived.Test.YtipdnfpomdcenabRDo
import Derived.Test.YtipdnfpomdcenabRBegin
namespace Go.Proofs.Ytipdnfpomdcenab
open Go.RowKit

/-- What is picked by a number of the script. -/
theorem rem_pick (x : Int) {n : Nat} (hn : 0 < n) : (if x.tmod n < 0 then x.tmod n + n else x.tmod n) = x.emod n := by
  have h1 := Int.tmod_eq_emod (a := x) (b := n)
  have h2 := Int.emod_nonneg x (show (n : Int) ≠ 0 by omega)
  have h3 := Int.emod_lt_of_pos x (show (0 : Int) < n by omega)
  have e : x.emod n = x % n := rfl
  rw [e]
  split at h1
  · rw [if_neg (by omega)]; omega
  · have h4 : x % (n : Int) ≠ 0 := fun h => by
      rename_i h5
      exact h5 (Or.inr (Int.dvd_of_emod_eq_zero h))
    have : ((n : Int).natAbs : Int) = n := by omega
    rw [if_pos (by omega)]; omega
theorem pick_lt (k : Nat) (script : List Int) (hk : 0 < k) : (pickX k script).1 < k := by
  unfold pickX
  split
  · exact hk
  · cases script with
    | nil => exact hk
    | cons x r =>
      have h2 := Int.emod_nonneg x (show (k : Int) ≠ 0 by omega)
      have h3 := Int.emod_lt_of_pos x (show (0 : Int) < k by omega)
      show (x.emod k).toNat < k
      have e : x.emod k = x % k := rfl
      rw [e]; omega

/-- A run goes one step on. -/
theorem run_ended {L : Nat → Nat} {X : Nat → Nat → Nat → Int} {mode : Int} {f : Nat} {s : Sx} {k : Nat} {sc : List Int} (h : endedX L s = true) : runX L X mode f s k sc = (s, 0, k) := by
  unfold runX; rw [if_pos h]
theorem run_stuck {L : Nat → Nat} {X : Nat → Nat → Nat → Int} {mode : Int} {f : Nat} {s : Sx} {k : Nat} {sc : List Int} (h : endedX L s = false) (hm : movesX L X mode s = []) : runX L X mode f s k sc = (s, 2, k) := by
  unfold runX; rw [if_neg (by simp [h])]; simp [hm]
theorem run_out {L : Nat → Nat} {X : Nat → Nat → Nat → Int} {mode : Int} {s : Sx} {k : Nat} {sc : List Int} (h : endedX L s = false) (hm : movesX L X mode s ≠ []) : runX L X mode 0 s k sc = (s, 3, k) := by
  unfold runX; rw [if_neg (by simp [h])]
  have : (movesX L X mode s).isEmpty = false := by cases hh : movesX L X mode s with
    | nil => exact absurd hh hm
    | cons a r => rfl
  simp [this]
theorem run_step {L : Nat → Nat} {X : Nat → Nat → Nat → Int} {mode : Int} {f : Nat} {s : Sx} {k : Nat} {sc : List Int} (h : endedX L s = false) (hm : movesX L X mode s ≠ []) : runX L X mode (f + 1) s k sc =
    (if (doX X mode s ((movesX L X mode s).getD (pickX (movesX L X mode s).length sc).1 0).toNat).fell then (doX X mode s ((movesX L X mode s).getD (pickX (movesX L X mode s).length sc).1 0).toNat, 1, k + 1)
     else runX L X mode f (doX X mode s ((movesX L X mode s).getD (pickX (movesX L X mode s).length sc).1 0).toNat) (k + 1) (pickX (movesX L X mode s).length sc).2) := by
  conv => lhs; unfold runX
  rw [if_neg (by simp [h])]
  have : (movesX L X mode s).isEmpty = false := by cases hh : movesX L X mode s with
    | nil => exact absurd hh hm
    | cons a r => rfl
  simp [this]

/-- What can be picked can be done. -/
def DoOk (P : Pg) (A : Nat → Option Addr) (L C : Nat → Nat) (X : Nat → Nat → Nat → Int) (m lk rg : Nat) : Prop :=
  ∀ (w : World) (B sb : Nat) (v : Rl → Value) (s : Sx) (mv : Int), DSt w B P sb v s → B ≤ w.heap.size → SOk P.n L m lk rg P.mode s → PIn w P.ca P.n A L C X → s.prints.length ≤ 20000 → mv ∈ movesX L X P.mode s →
    Calls Try.prog 24 #[.pointer (some ⟨sb, 0, none⟩), .int .i64 mv] w (DoQ B sb P v w (doX X P.mode s mv.toNat)) ∧ SOk P.n L m lk rg P.mode (doX X P.mode s mv.toNat) ∧ (doX X P.mode s mv.toNat).prints.length ≤ s.prints.length + 2
theorem movesX_zero {n : Nat} {L : Nat → Nat} {X : Nat → Nat → Nat → Int} {m lk rg : Nat} {s : Sx} (ho : SOk n L m lk rg 0 s) {mv : Int} (h : mv ∈ movesX L X 0 s) : ∃ t, t < n ∧ mv = 8 * (t : Int) ∧ ableT L X s t = true := by
  unfold movesX at h
  rw [List.mem_flatMap] at h
  obtain ⟨t, ht, h⟩ := h
  have htn : t < n := by rw [← ho.ths]; simpa using ht
  have hb := ho.bare rfl t htn
  unfold movesT at h
  rw [hb] at h
  simp at h
  exact ⟨t, htn, h.2, h.1⟩
theorem doOk_zero {P : Pg} (hm : P.mode = 0) {A : Nat → Option Addr} {L C : Nat → Nat} {X : Nat → Nat → Nat → Int} {m lk rg : Nat} (hc : COk P.n L X m lk rg) : DoOk P A L C X m lk rg := by
  intro w B sb v s mv hs hB ho hp hpr hmv
  rw [hm] at hmv
  have ho' := ho
  rw [hm] at ho'
  obtain ⟨t, ht, rfl, ha⟩ := movesX_zero ho' hmv
  have hx : Cx w B sb P v s A L C X m lk rg t := ⟨ht, hs, hB, ho, hc, hp, able_lt ha, hpr, by omega⟩
  have e : (8 * (t : Int)).toNat = 8 * t := by omega
  rw [e]
  exact ⟨do_order w B sb P v s A L C X m lk rg t hx, ho.step hc (by omega) ht ha, prints_step⟩

/-- What a run's trace is. -/
def TraceQ (w : World) (r : Sx × Int × Nat) (e : Ending) (w' : World) : Prop := ∃ pa pl pc wa wl wc, e = .returned (.agg #[.slice pa pl pc, .int .i64 r.2.1, .slice wa wl wc, .int .i64 (r.2.2 : Nat)]) ∧ IsI w' w.heap.size pa pl pc r.1.prints ∧ IsI w' w.heap.size wa wl wc r.1.words ∧ Below w.heap.size w w'

theorem begin_ok {n : Nat} {L : Nat → Nat} {words : List Int} {lk rg : Nat} {mode : Int} : SOk n L words.length lk rg mode (beginX n words lk rg) := by
  have e : ∀ t, t < n → thOf (beginX n words lk rg) t = { pc := 0, regs := List.replicate ((rg : Int)).toNat 0, wait := [] } := fun t ht => by
    unfold thOf beginX
    simp [List.getD, ht]
  refine ⟨by simp [beginX], fun t ht => ?_, fun t ht => ?_, rfl, by simp [beginX], fun t ht => ?_, fun t ht => ?_, fun _ t ht => ?_⟩
  all_goals rw [e t ht]
  · exact Nat.zero_le _
  · simp
  · simp
  · intro x hx; cases hx

/-- The trace, laid into its block r. -/
theorem trace_fin {w W W' : World} {B sb r : Nat} {P : Pg} {v : Rl → Value} {s : Sx} {x0 x1 x2 x3 : Value} (hs : DSt W B P sb v s) (hr : r < B) (hw : w.heap.size ≤ r) (hb : Below w.heap.size w W)
    (e : W'.heap = ((((W.setCell ⟨r, 0, none⟩ x0).setCell ⟨r, 1, none⟩ x1).setCell ⟨r, 2, none⟩ x2).setCell ⟨r, 3, none⟩ x3).heap) (e1 : W'.os = W.os) (e2 : W'.tape = W.tape) (e3 : W'.output = W.output) {pa wa : Option Addr} {pl pc wl wc : Nat} (hp : v .prints = .slice pa pl pc) (hw' : v .words = .slice wa wl wc) :
    IsI W' w.heap.size pa pl pc s.prints ∧ IsI W' w.heap.size wa wl wc s.words ∧ Below w.heap.size w W' := by
  have hk : ∀ k, k ≠ r → W'.heap[k]? = W.heap[k]? := fun k hk => by
    rw [e, Below.heap_setCell _ _ _ _ hk, Below.heap_setCell _ _ _ _ hk, Below.heap_setCell _ _ _ _ hk, Below.heap_setCell _ _ _ _ hk]
  have hlow := hs.fam.low
  have hsz : W'.heap.size = W.heap.size := by rw [e]; simp [World.setCell]
  refine ⟨?_, ?_, ?_⟩
  · have h1 := fam_keeps (w' := W') (hs.fam.own .prints) (fun g hg => hk g (by have := hlow _ _ hg; omega))
    rw [hp] at h1
    have hl : s.prints.length = pl := by have h2 := h1.1; have h3 := fam_form h1; obtain ⟨_, _, h3⟩ := h3; simp only [Value.slice.injEq] at h3; exact h3.2.1.symm
    refine ⟨hl, own_low ?_ (by omega : w.heap.size ≤ B)⟩
    rw [← hl] at h1 ⊢
    exact h1
  · have h1 := fam_keeps (w' := W') (hs.fam.own .words) (fun g hg => hk g (by have := hlow _ _ hg; omega))
    rw [hw'] at h1
    have hl : s.words.length = wl := by have h2 := h1.1; have h3 := fam_form h1; obtain ⟨_, _, h3⟩ := h3; simp only [Value.slice.injEq] at h3; exact h3.2.1.symm
    refine ⟨hl, own_low ?_ (by omega : w.heap.size ≤ B)⟩
    rw [← hl] at h1 ⊢
    exact h1
  · exact ⟨e1.trans hb.os, e2.trans hb.tape, e3.trans hb.output, by rw [hsz]; exact hb.size, fun k hk' => (hk k (by omega)).trans (hb.block k hk')⟩

theorem cell_set (w : World) (b o : Nat) (x : Value) : (w.setCell ⟨b, o, none⟩ x).cell? ⟨b, o, none⟩ = if (w.cell? ⟨b, o, none⟩).isSome then some x else none := by
  unfold World.cell? World.setCell
  simp only [Array.getElem?_modify, if_true]
  cases h : w.heap[b]? with
  | none => simp
  | some ob =>
    cases ob with
    | cells c e f =>
      simp only [Option.map_some, Option.isSome_none, Bool.false_eq_true, if_false]
      rw [Array.getElem?_setIfInBounds]
      by_cases ho : o < c.size
      · simp [ho]
      · simp [ho]
    | _ => simp
/-- What is known in a round of a run. -/
structure Rnd (w wr : World) (B sb : Nat) (P : Pg) (v : Rl → Value) (s : Sx) (A : Nat → Option Addr) (L C : Nat → Nat) (X : Nat → Nat → Nat → Int) (m lk rg k : Nat) : Prop where
  D : DSt wr B P sb v s
  ok : SOk P.n L m lk rg P.mode s
  pr : s.prints.length ≤ 2 * k
  low : Below B w wr
  prog : PIn wr P.ca P.n A L C X
theorem Rnd.below {w wr w1 : World} {B sb : Nat} {P : Pg} {v : Rl → Value} {s : Sx} {A : Nat → Option Addr} {L C : Nat → Nat} {X : Nat → Nat → Nat → Int} {m lk rg k : Nat} (h : Rnd w wr B sb P v s A L C X m lk rg k) (hB : B ≤ wr.heap.size) (hb : Below wr.heap.size wr w1) : Rnd w w1 B sb P v s A L C X m lk rg k :=
  ⟨h.D.below hb, h.ok, h.pr, h.low.trans (hb.mono hB), h.prog.below hb⟩
/-- What lies in the trace's block, ahead of its store. -/
theorem trace_cells {w W : World} {PC : Obj} (h : Below (w.heap.size + 2) ((w.alloc PC).alloc (.cells #[nilV, .int .i64 0, nilV, .int .i64 0] 28)) W) :
    (W.cell? ⟨w.heap.size + 1, 0, none⟩ = some nilV ∧ W.cell? ⟨w.heap.size + 1, 1, none⟩ = some (.int .i64 0) ∧ W.cell? ⟨w.heap.size + 1, 2, none⟩ = some nilV ∧ W.cell? ⟨w.heap.size + 1, 3, none⟩ = some (.int .i64 0)) ∧ ∀ i, W.frozen? ⟨w.heap.size + 1, i, none⟩ = false := by
  have hblk := h.block (w.heap.size + 1) (by omega)
  have e := heap_alloc_new (w.alloc PC) (.cells #[nilV, .int .i64 0, nilV, .int .i64 0] 28)
  rw [World.size_alloc] at e
  rw [e] at hblk
  refine ⟨⟨?_, ?_, ?_, ?_⟩, fun i => ?_⟩
  all_goals simp [World.cell?, World.frozen?, hblk]

end Go.Proofs.Ytipdnfpomdcenab
