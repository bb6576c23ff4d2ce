/-
  What the program's Text does with a program that may not be.
-/
import Derived.Test.YthbebnegmenejaaGreatDoorCheckA
import Derived.Test.YthbebnegmenejaaGreatDoorInProg
namespace Go.Proofs.YthbebnegmenejaaGreatDoor
open Go.RowKit

theorem box_free {w w1 : World} {o : Obj} {c : Array Value} {t : TypeId} (hb : Below ((w.alloc o).alloc (.cells c t)).heap.size ((w.alloc o).alloc (.cells c t)) w1) (i : Nat) : w1.frozen? ⟨w.heap.size + 1, i, none⟩ = false := by
  rw [hb.frozen (p := ⟨w.heap.size + 1, i, none⟩) (by simp)]
  have e : w.heap.size + 1 = (w.alloc o).heap.size := by simp
  rw [e]
  simp only [World.frozen?, heap_alloc_new]
  simp
set_option maxRecDepth 100000 in
set_option maxHeartbeats 1600000 in
theorem text_no (ca : Option Addr) (n cc : Nat) (wa : Option Addr) (m wc : Nat) (lk rg : Int) (A : Nat → Option Addr) (L C : Nat → Nat) (X : Nat → Nat → Nat → Int) (x y z : Int) (HR : Hid (chk n L X m lk rg = (x, y, z))) (hx : (x != 0) = true) (w : World) (hp : PIn w ca n A L C X) :
    Calls Tryz.prog 5 #[prgV ca n cc wa m wc lk rg] w fun e w' => e = .returned (.tuple #[.string ⟨#[]⟩, ints3 x y z]) ∧ Below w.heap.size w w' := by
  have HB0 : Below w.heap.size w ((w.alloc (.cells #[.slice ca n cc, .slice wa m wc, .int .i64 lk, .int .i64 rg] 25)).alloc (.cells #[.int .i64 0, .int .i64 0, .int .i64 0] 29)) := ((Below.refl _ _).alloc (Nat.le_refl _) _).alloc (by simp) _
  have hp0 := hp.below HB0
  go_enter Tryz.func5, Tryz.ntmps5
  go_wp2_with (first | (go_at_call 10; refine (check_any ca n cc wa _ wc lk rg A L C X x y z HR _ hp0).mono ?_; rintro e w1 ⟨rfl, hb1⟩; have hz1 : w.heap.size + 2 ≤ w1.heap.size := (by have := hb1.size; simp at this; omega); have r0 : w1.cell? ⟨w.heap.size + 1, 0, none⟩ = some (.int .i64 0) := (hb1.cell (p := ⟨w.heap.size + 1, 0, none⟩) (by simp)).trans (by go_simp); have r1 : w1.cell? ⟨w.heap.size + 1, 1, none⟩ = some (.int .i64 0) := (hb1.cell (p := ⟨w.heap.size + 1, 1, none⟩) (by simp)).trans (by go_simp); have r2 : w1.cell? ⟨w.heap.size + 1, 2, none⟩ = some (.int .i64 0) := (hb1.cell (p := ⟨w.heap.size + 1, 2, none⟩) (by simp)).trans (by go_simp); have rf := box_free hb1))
  have s0 := fun o => (World.cell?_alloc_lt w1 o _ (lt_of_cell r0)).trans r0
  have s1 := fun o => (World.cell?_alloc_lt w1 o _ (lt_of_cell r1)).trans r1
  have s2 := fun o => (World.cell?_alloc_lt w1 o _ (lt_of_cell r2)).trans r2
  have sf := fun o i => (World.frozen?_alloc_past (w := w1) o (w.heap.size + 1) i (by omega)).trans (rf i)
  have HBX : Below w.heap.size w w1 := HB0.trans (hb1.mono HB0.size)
  have hn1 : ¬ w1.heap.size = w.heap.size + 1 := by omega
  have hn2 : ¬ w.heap.size + 1 = w1.heap.size := by omega
  go_region
  all_goals go_wp2
  all_goals refine bodyPost_ret (v := .tuple #[.string ⟨#[]⟩, ints3 x y z]) (by simp [results, Tryz.results5, go_sem, s0, s1, s2]) rfl ⟨rfl, ?_⟩
  all_goals first
    | exact ((((HBX.alloc HBX.size _).setCell (Nat.le_succ _) _).setCell (Nat.le_succ _) _).setCell (Nat.le_succ _) _).drew
    | exact (((((HBX.alloc HBX.size _).setCell (Nat.le_succ _) _).setCell (Nat.le_succ _) _).setCell (Nat.le_succ _) _).drew)
    | exact (((((HBX.alloc HBX.size _).drew).setCell (Nat.le_succ _) _).setCell (Nat.le_succ _) _).setCell (Nat.le_succ _) _)
    | (trace_state; sorry)

end Go.Proofs.YthbebnegmenejaaGreatDoor
