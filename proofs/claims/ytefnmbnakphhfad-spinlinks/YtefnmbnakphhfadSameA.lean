/-
  What the document's Same does with two programs of the same numbers.
-/
import Derived.Test.YtefnmbnakphhfadSameI
namespace Go.Proofs.Ytefnmbnakphhfad
open Go.RowKit

abbrev boxP (ca : Option Addr) (n cc : Nat) (wa : Option Addr) (m wc : Nat) (lk rg : Int) : Obj := .cells #[.slice ca n cc, .slice wa m wc, .int .i64 lk, .int .i64 rg] 25

set_option maxRecDepth 100000 in
set_option maxHeartbeats 3200000 in
theorem same_any (ca : Option Addr) (n cc : Nat) (wa : Option Addr) (m wc : Nat) (lk rg : Int) (A : Nat → Option Addr) (L C : Nat → Nat) (X : Nat → Nat → Nat → Int) (ca' : Option Addr) (cc' : Nat) (wa' : Option Addr) (wc' : Nat) (A' : Nat → Option Addr) (C' : Nat → Nat) (Y : Nat → Int) (hm : m ≤ 9223372036854775807) (w : World)
    (hp : PIn w ca n A L C X) (hp' : PIn w ca' n A' L C' X) (hi : IIn w wa m Y) (hi' : IIn w wa' m Y) :
    Calls Try.prog 9 #[prgV ca n cc wa m wc lk rg, prgV ca' n cc' wa' m wc' lk rg] w fun e w' => e = .returned (.bool true) ∧ Below w.heap.size w w' := by
  have hn := hp.num
  have HB0 : Below w.heap.size w ((w.alloc (boxP ca n cc wa m wc lk rg)).alloc (boxP ca' n cc' wa' m wc' lk rg)) := ((Below.refl _ _).alloc (Nat.le_refl _) _).alloc (by simp) _
  have hj := hi.below HB0
  have hj' := hi'.below HB0
  go_enter Try.func9, Try.ntmps9
  go_wp2_with (first | (go_at_call 27; refine (ints_same wa wa' m wc wc' hm Y _ hj hj').mono ?_; rintro e w1 ⟨rfl, hb1⟩; have p0 : w1.cell? ⟨w.heap.size, 0, none⟩ = some (.slice ca n cc) := (hb1.cell (p := ⟨w.heap.size, 0, none⟩) (by simp; omega)).trans (by go_simp); have p2 : w1.cell? ⟨w.heap.size, 2, none⟩ = some (.int .i64 lk) := (hb1.cell (p := ⟨w.heap.size, 2, none⟩) (by simp; omega)).trans (by go_simp); have p3 : w1.cell? ⟨w.heap.size, 3, none⟩ = some (.int .i64 rg) := (hb1.cell (p := ⟨w.heap.size, 3, none⟩) (by simp; omega)).trans (by go_simp); have q0 : w1.cell? ⟨w.heap.size + 1, 0, none⟩ = some (.slice ca' n cc') := (hb1.cell (p := ⟨w.heap.size + 1, 0, none⟩) (by simp)).trans (by go_simp); have q2 : w1.cell? ⟨w.heap.size + 1, 2, none⟩ = some (.int .i64 lk) := (hb1.cell (p := ⟨w.heap.size + 1, 2, none⟩) (by simp)).trans (by go_simp); have q3 : w1.cell? ⟨w.heap.size + 1, 3, none⟩ = some (.int .i64 rg) := (hb1.cell (p := ⟨w.heap.size + 1, 3, none⟩) (by simp)).trans (by go_simp)))
  have HB1 : Below w.heap.size w w1 := HB0.trans (hb1.mono HB0.size)
  clear hb1 hj hj' HB0 p2 p3 q2 q3 hi hi'
  go_loopw [6] (fun i wr => ∃ k : Nat, k ≤ n ∧ i = .int .i64 k ∧ Below w1.heap.size w1 wr) (fun i _ => n - (intOf i).toNat)
  case atStart => exact ⟨0, Nat.zero_le _, rfl, Below.refl _ _⟩
  case round =>
    obtain ⟨k, hk, rfl, hbr⟩ := hrel
    have HBr : Below w.heap.size w wr := HB1.trans (hbr.mono HB1.size)
    have p0r := (hbr.cell (lt_of_cell p0)).trans p0
    have q0r := (hbr.cell (lt_of_cell q0)).trans q0
    by_cases hlt : k < n
    · obtain ⟨cb, co, rfl, hc⟩ := (hp.below HBr).code k hlt
      obtain ⟨cb', co', rfl, hc'⟩ := (hp'.below HBr).code k hlt
      have hl := hp.len k hlt
      go_wp2
      go_region
      all_goals go_wp2
      go_loopw [7] (fun i wi => ∃ j : Nat, j ≤ L k ∧ i = .int .i64 j ∧ Below w1.heap.size w1 wi) (fun i _ => L k - (intOf i).toNat)
      case atStart => exact ⟨0, Nat.zero_le _, rfl, hbr.drew⟩
      case round =>
        obtain ⟨j, hj, rfl, hbi⟩ := hrel
        clear hc hc' p0r q0r HBr hbr
        have HBi : Below w.heap.size w wr := HB1.trans (hbi.mono HB1.size)
        have p0i := (hbi.cell (lt_of_cell p0)).trans p0
        have q0i := (hbi.cell (lt_of_cell q0)).trans q0
        obtain ⟨_, _, e0, hc⟩ := (hp.below HBi).code k hlt
        obtain ⟨_, _, e1, hc'⟩ := (hp'.below HBi).code k hlt
        simp only [Option.some.injEq, Addr.mk.injEq, and_true] at e0 e1
        obtain ⟨rfl, rfl⟩ := e0
        obtain ⟨rfl, rfl⟩ := e1
        by_cases hjl : j < L k
        · obtain ⟨ob, oo, ha, x0, x1, x2, x3⟩ := (hp.below HBi).ord k j hlt hjl
          obtain ⟨ob', oo', ha', y0, y1, y2, y3⟩ := (hp'.below HBi).ord k j hlt hjl
          rw [ha] at hc
          rw [ha'] at hc'
          have a0 := fun o => (World.cell?_alloc_lt wr o _ (lt_of_cell q0i)).trans q0i
          have a1 := fun o => (World.cell?_alloc_lt wr o _ (lt_of_cell hc')).trans hc'
          have a2 := fun o => (World.cell?_alloc_lt wr o _ (lt_of_cell y0)).trans y0
          have a3 := fun o => (World.cell?_alloc_lt wr o _ (lt_of_cell y1)).trans y1
          have a4 := fun o => (World.cell?_alloc_lt wr o _ (lt_of_cell y2)).trans y2
          have a5 := fun o => (World.cell?_alloc_lt wr o _ (lt_of_cell y3)).trans y3
          go_wp2
          go_roundw
          case rel => exact ⟨j + 1, by omega, by go_num, (hbi.alloc hbi.size _).alloc (by have := hbi.size; simp; omega) _⟩
          case measure => simp [intOf]; omega
        · go_wp2
          go_roundw
          case rel => exact ⟨k + 1, by omega, by go_num, hbi⟩
          case measure => simp [intOf]; omega
    · go_wp2
      go_ret
      exact ⟨rfl, HBr⟩

end Go.Proofs.Ytefnmbnakphhfad
