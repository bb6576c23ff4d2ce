/-
  The law of runs in which one step comes after the other.
-/
import Derived.Test.YtipdnfpomdcenaaPRunS
import Derived.Test.YtipdnfpomdcenaaSameI
import Derived.Test.YtipdnfpomdcenaaVast
import Derived.Test.YtipdnfpomdcenaaCheckR2
import Derived.Test.YtipdnfpomdcenaaRRun
import Derived.Test.YtipdnfpomdcenaaBox
namespace Go.Proofs.Ytipdnfpomdcenaa
open Go.RowKit

set_option maxRecDepth 100000 in
set_option maxHeartbeats 3200000 in
theorem scRuns_no (w : World) (ca : Option Addr) (n cc : Nat) (wa : Option Addr) (m wc : Nat) (lk rg : Int) (A : Nat → Option Addr) (L C : Nat → Nat) (X : Nat → Nat → Nat → Int) (x y z : Int) (HR : Hid (chk n L X m lk rg = (x, y, z))) (hx : (x != 0) = true) (hm : m ≤ 9223372036854775807) (hp : PIn w ca n A L C X) (sa : Option Addr) (sl sc : Nat) :
    Calls Try.prog 4 #[prgV ca n cc wa m wc lk rg, .slice sa sl sc] w fun e w' => e = .returned (.bool true) ∧ Below w.heap.size w w' := by
  have HB0 : Below w.heap.size w (w.alloc (boxQ ca n cc wa m wc lk rg)) := (Below.refl _ _).alloc (Nat.le_refl _) _
  have HP : ∀ W, Below w.heap.size w W → PIn W ca n A L C X := fun W hb => hp.below hb
  go_enter Try.func4, Try.ntmps4
  go_wp2_with (fail)
  refine (vast_any _ _ _ _ _ _ _ _ A L C X hm _ (HP _ HB0)).mono ?_
  rintro e w1 ⟨⟨b, rfl⟩, hb1⟩
  have hB1 : Below w.heap.size w w1 := HB0.trans (hb1.mono HB0.size)
  have p0 : w1.cell? ⟨w.heap.size, 0, none⟩ = some (.slice ca n cc) := box_cell ((hb1.block _ (by simp)).trans (heap_alloc_new _ _)) rfl
  have p1 : w1.cell? ⟨w.heap.size, 1, none⟩ = some (.slice wa m wc) := box_cell ((hb1.block _ (by simp)).trans (heap_alloc_new _ _)) rfl
  have p2 : w1.cell? ⟨w.heap.size, 2, none⟩ = some (.int .i64 lk) := box_cell ((hb1.block _ (by simp)).trans (heap_alloc_new _ _)) rfl
  have p3 : w1.cell? ⟨w.heap.size, 3, none⟩ = some (.int .i64 rg) := box_cell ((hb1.block _ (by simp)).trans (heap_alloc_new _ _)) rfl
  clear hb1 HB0
  cases b with
  | true =>
    go_wp2
    go_ret
    exact ⟨rfl, hB1⟩
  | false =>
    go_wp2_with (fail)
    refine (run_no w1 ca n cc wa m wc lk rg A L C X x y z HR hx (HP _ hB1) sa sl sc).mono ?_
    rintro e w2 ⟨rfl, hb2⟩
    have hB2 : Below w.heap.size w w2 := hB1.trans (hb2.mono hB1.size)
    rw [← hb2.cell (lt_of_cell p0)] at p0
    rw [← hb2.cell (lt_of_cell p1)] at p1
    rw [← hb2.cell (lt_of_cell p2)] at p2
    rw [← hb2.cell (lt_of_cell p3)] at p3
    have hz2 : w.heap.size < w2.heap.size := lt_of_cell p0
    clear hb2 hB1
    go_wp2_with (fail)
    have hB3 : Below w.heap.size w ((w2.alloc (.cells #[nilV, .int .i64 0, nilV, .int .i64 0] 32)).alloc (.cells #[.int .i64 x, .int .i64 y, .int .i64 z] 29)) := (hB2.alloc hB2.size _).alloc (hB2.alloc hB2.size _).size _
    refine (rcheck_any _ _ _ _ _ _ _ _ A L C X x y z HR _ (HP _ hB3)).mono ?_
    rintro e w3 ⟨rfl, hb3⟩
    have hB4 : Below w.heap.size w w3 := hB3.trans (hb3.mono hB3.size)
    have hT : w3.heap[w2.heap.size]? = some (.cells #[nilV, .int .i64 0, nilV, .int .i64 0] 32) := (hb3.block _ (by simp; omega)).trans (box_later (heap_alloc_new _ _) _)
    have hF : w3.heap[w2.heap.size + 1]? = some (.cells #[.int .i64 x, .int .i64 y, .int .i64 z] 29) := (hb3.block _ (by simp)).trans (by have := heap_alloc_new (w2.alloc (.cells #[nilV, .int .i64 0, nilV, .int .i64 0] 32)) (.cells #[.int .i64 x, .int .i64 y, .int .i64 z] 29); rwa [World.size_alloc] at this)
    have t0 : ∀ o, (w3.alloc o).cell? ⟨w2.heap.size, 0, none⟩ = some nilV := fun o => box_cell (box_later hT o) rfl
    have t1 : ∀ o, (w3.alloc o).cell? ⟨w2.heap.size, 1, none⟩ = some (.int .i64 0) := fun o => box_cell (box_later hT o) rfl
    have t2 : ∀ o, (w3.alloc o).cell? ⟨w2.heap.size, 2, none⟩ = some nilV := fun o => box_cell (box_later hT o) rfl
    have t3 : ∀ o, (w3.alloc o).cell? ⟨w2.heap.size, 3, none⟩ = some (.int .i64 0) := fun o => box_cell (box_later hT o) rfl
    clear hb3 hB3 hB2 p0 p1 p2 p3 hT
    go_wp2_with (fail)
    refine (none_empty _).mono ?_
    rintro e w4 ⟨rfl, hb4⟩
    have hF4 : w4.heap[w2.heap.size + 1]? = some (.cells #[.int .i64 x, .int .i64 y, .int .i64 z] 29) := (hb4.block _ (by have := box_lt hF; simp; omega)).trans (box_later hF _)
    have hN4 : w4.heap[w3.heap.size]? = some (.cells #[.int .i64 x, .int .i64 y, .int .i64 z] 29) := (hb4.block _ (by simp)).trans (heap_alloc_new _ _)
    have f0 : w4.cell? ⟨w2.heap.size + 1, 0, none⟩ = some (.int .i64 x) := box_cell hF4 rfl
    have f1 : w4.cell? ⟨w2.heap.size + 1, 1, none⟩ = some (.int .i64 y) := box_cell hF4 rfl
    have f2 : w4.cell? ⟨w2.heap.size + 1, 2, none⟩ = some (.int .i64 z) := box_cell hF4 rfl
    have g0 : w4.cell? ⟨w3.heap.size, 0, none⟩ = some (.int .i64 x) := box_cell hN4 rfl
    have g1 : w4.cell? ⟨w3.heap.size, 1, none⟩ = some (.int .i64 y) := box_cell hN4 rfl
    have g2 : w4.cell? ⟨w3.heap.size, 2, none⟩ = some (.int .i64 z) := box_cell hN4 rfl
    have hB5 : Below w.heap.size w w4 := (hB4.alloc hB4.size _).trans (hb4.mono (hB4.alloc hB4.size _).size)
    clear hb4 hF4 hN4 hF t0 t1 t2 t3
    go_wp2
    go_ret
    exact ⟨rfl, hB5⟩

end Go.Proofs.Ytipdnfpomdcenaa
