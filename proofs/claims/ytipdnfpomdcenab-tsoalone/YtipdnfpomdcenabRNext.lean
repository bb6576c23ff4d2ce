/-
  The state of a run of the document, as it lies in memory; a thread's next order.
-/
import Derived.Test.YtipdnfpomdcenabInProg
import Derived.Test.YtipdnfpomdcenabRunP
namespace Go.Proofs.Ytipdnfpomdcenab
open Go.RowKit

/-- What lies in memory lies there when more is made. -/
theorem cell_up {w : World} {a : Addr} {v : Value} (h : w.cell? a = some v) (o : Obj) : (w.alloc o).cell? a = some v := (World.cell?_alloc_lt _ _ _ (lt_of_cell h)).trans h

/-- The state of a run, as it is read: its box at sb, its threads at tb. -/
structure SIn (w : World) (sb : Nat) (ca : Option Addr) (n cc : Nat) (mode : Int) (tb tc : Nat) (rv qv : Nat → Value) (wv ov pv : Value) (s : Sx) : Prop where
  code : w.cell? ⟨sb, 0, none⟩ = some (.slice ca n cc)
  mode : w.cell? ⟨sb, 4, none⟩ = some (.int .i64 mode)
  ths : w.cell? ⟨sb, 5, none⟩ = some (.slice (some ⟨tb, 0, none⟩) s.ths.length tc)
  words : w.cell? ⟨sb, 6, none⟩ = some wv
  own : w.cell? ⟨sb, 7, none⟩ = some ov
  prints : w.cell? ⟨sb, 8, none⟩ = some pv
  fell : w.cell? ⟨sb, 9, none⟩ = some (.bool s.fell)
  pc : ∀ t, t < s.ths.length → w.cell? ⟨tb, t * 3, none⟩ = some (.int .i64 (thOf s t).pc)
  regs : ∀ t, t < s.ths.length → w.cell? ⟨tb, t * 3 + 1, none⟩ = some (rv t)
  wait : ∀ t, t < s.ths.length → w.cell? ⟨tb, t * 3 + 2, none⟩ = some (qv t)

set_option maxRecDepth 100000 in
set_option maxHeartbeats 1600000 in
theorem next_ended (sb : Nat) (ca : Option Addr) (n cc : Nat) (mode : Int) (tb tc : Nat) (rv qv : Nat → Value) (wv ov pv : Value) (s : Sx) (A : Nat → Option Addr) (L C : Nat → Nat) (X : Nat → Nat → Nat → Int) (hn : s.ths.length = n) (t : Nat) (ht : t < n) (_hN : n ≤ 4) (_hL : L t ≤ 400) (_hpc : (thOf s t).pc ≤ 400) (hend : L t ≤ (thOf s t).pc) (w : World) (hs : SIn w sb ca n cc mode tb tc rv qv wv ov pv s) (hp : PIn w ca n A L C X) :
    Calls Try.prog 37 #[.pointer (some ⟨sb, 0, none⟩), .int .i64 t] w fun e w' => e = .returned (.tuple #[.agg #[.int .i64 0, .int .i64 0, .int .i64 0, .int .i64 0], .bool false]) ∧ Below w.heap.size w w' := by
  obtain ⟨cb, co, rfl, hcell⟩ := hp.code t ht
  have h0 := cell_up hs.code
  have h5 := cell_up hs.ths
  have hpcc := cell_up (hs.pc t (by omega))
  have hcc := cell_up hcell
  simp only [hn] at h5
  obtain ⟨k, hk⟩ : ∃ k, (thOf s t).pc = k := ⟨_, rfl⟩
  simp only [hk] at hpcc _hpc hend
  go_enter Try.func37, Try.ntmps37
  go_wp2
  refine bodyPost_ret (v := .tuple #[.agg #[.int .i64 0, .int .i64 0, .int .i64 0, .int .i64 0], .bool false]) (by simp [results, Try.results37, go_sem]) rfl ⟨rfl, (Below.refl _ _).alloc (Nat.le_refl _) _⟩

set_option maxRecDepth 100000 in
set_option maxHeartbeats 1600000 in
theorem next_more (sb : Nat) (ca : Option Addr) (n cc : Nat) (mode : Int) (tb tc : Nat) (rv qv : Nat → Value) (wv ov pv : Value) (s : Sx) (A : Nat → Option Addr) (L C : Nat → Nat) (X : Nat → Nat → Nat → Int) (hn : s.ths.length = n) (t : Nat) (ht : t < n) (_hN : n ≤ 4) (_hL : L t ≤ 400) (hend : (thOf s t).pc < L t) (w : World) (hs : SIn w sb ca n cc mode tb tc rv qv wv ov pv s) (hp : PIn w ca n A L C X) :
    Calls Try.prog 37 #[.pointer (some ⟨sb, 0, none⟩), .int .i64 t] w fun e w' => e = .returned (.tuple #[.agg #[.int .i64 (opT X s t 0), .int .i64 (opT X s t 1), .int .i64 (opT X s t 2), .int .i64 (opT X s t 3)], .bool true]) ∧ Below w.heap.size w w' := by
  obtain ⟨cb, co, rfl, hcell⟩ := hp.code t ht
  have h0 := cell_up hs.code
  have h5 := cell_up hs.ths
  have hpcc := cell_up (hs.pc t (by omega))
  have hcc := cell_up hcell
  simp only [hn] at h5
  unfold opT
  obtain ⟨k, hk⟩ : ∃ k, (thOf s t).pc = k := ⟨_, rfl⟩
  simp only [hk] at hpcc hend ⊢
  obtain ⟨ob, oo, hA, x0, x1, x2, x3⟩ := hp.ord t k ht hend
  rw [hA] at hcc
  have y0 := cell_up x0
  have y1 := cell_up x1
  have y2 := cell_up x2
  have y3 := cell_up x3
  obtain ⟨v0, e0⟩ : ∃ v, X t k 0 = v := ⟨_, rfl⟩
  obtain ⟨v1, e1⟩ : ∃ v, X t k 1 = v := ⟨_, rfl⟩
  obtain ⟨v2, e2⟩ : ∃ v, X t k 2 = v := ⟨_, rfl⟩
  obtain ⟨v3, e3⟩ : ∃ v, X t k 3 = v := ⟨_, rfl⟩
  simp only [e0] at y0 ⊢
  simp only [e1] at y1 ⊢
  simp only [e2] at y2 ⊢
  simp only [e3] at y3 ⊢
  go_enter Try.func37, Try.ntmps37
  go_wp2
  refine bodyPost_ret (v := .tuple #[.agg #[.int .i64 v0, .int .i64 v1, .int .i64 v2, .int .i64 v3], .bool true]) (by simp [results, Try.results37, go_sem]) rfl ⟨rfl, (Below.refl _ _).alloc (Nat.le_refl _) _⟩

theorem SIn.below {w w' : World} {sb : Nat} {ca : Option Addr} {n cc : Nat} {mode : Int} {tb tc : Nat} {rv qv : Nat → Value} {wv ov pv : Value} {s : Sx} (h : SIn w sb ca n cc mode tb tc rv qv wv ov pv s) (hb : Below w.heap.size w w') : SIn w' sb ca n cc mode tb tc rv qv wv ov pv s :=
  ⟨(hb.cell (lt_of_cell h.code)).trans h.code, (hb.cell (lt_of_cell h.mode)).trans h.mode, (hb.cell (lt_of_cell h.ths)).trans h.ths, (hb.cell (lt_of_cell h.words)).trans h.words, (hb.cell (lt_of_cell h.own)).trans h.own, (hb.cell (lt_of_cell h.prints)).trans h.prints, (hb.cell (lt_of_cell h.fell)).trans h.fell,
    fun t ht => (hb.cell (lt_of_cell (h.pc t ht))).trans (h.pc t ht), fun t ht => (hb.cell (lt_of_cell (h.regs t ht))).trans (h.regs t ht), fun t ht => (hb.cell (lt_of_cell (h.wait t ht))).trans (h.wait t ht)⟩

end Go.Proofs.Ytipdnfpomdcenab
