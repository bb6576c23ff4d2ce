/-
  The program's Run of a program that Check does not let pass.
-/
import Derived.Test.YtipdnfpomdcenaaPRun
import Derived.Test.YtipdnfpomdcenaaCheckA
namespace Go.Proofs.Ytipdnfpomdcenaa
open Go.RowKit

theorem res_two {w w1 : World} {a b c : Obj} (hb : Below (((w.alloc a).alloc b).alloc c).heap.size (((w.alloc a).alloc b).alloc c) w1) : w1.heap[w.heap.size + 1]? = some b ∧ w1.heap[w.heap.size + 1 + 1]? = some c := by
  have e1 : ((w.alloc a).alloc b).heap[w.heap.size + 1]? = some b := by
    have := heap_alloc_new (w.alloc a) b
    rwa [World.size_alloc] at this
  have e2 : (((w.alloc a).alloc b).alloc c).heap[w.heap.size + 1 + 1]? = some c := by
    have := heap_alloc_new ((w.alloc a).alloc b) c
    rwa [World.size_alloc, World.size_alloc] at this
  have e3 : (((w.alloc a).alloc b).alloc c).heap[w.heap.size + 1]? = some b := ((Below.refl ((w.alloc a).alloc b).heap.size _).alloc (Nat.le_refl _) c).block _ (by simp) |>.trans e1
  exact ⟨(hb.block _ (by simp)).trans e3, (hb.block _ (by simp)).trans e2⟩
theorem box_cell {w : World} {g i : Nat} {cs : Array Value} {t : TypeId} {u : Value} (h : w.heap[g]? = some (.cells cs t)) (hi : cs[i]? = some u) : w.cell? ⟨g, i, none⟩ = some u := by
  simp [World.cell?, h, hi]
theorem box_free {w : World} {g i : Nat} {cs : Array Value} {t : TypeId} (h : w.heap[g]? = some (.cells cs t)) : w.frozen? ⟨g, i, none⟩ = false := by
  simp [World.frozen?, h]
theorem box_later {w : World} {g : Nat} {o : Obj} (h : w.heap[g]? = some o) (p : Obj) : (w.alloc p).heap[g]? = some o := by
  have hl : g < w.heap.size := by
    rcases Nat.lt_or_ge g w.heap.size with h1 | h1
    · exact h1
    · rw [Array.getElem?_eq_none h1] at h; cases h
  exact (((Below.refl w.heap.size w).alloc (Nat.le_refl _) p).block _ hl).trans h

set_option maxRecDepth 100000 in
set_option maxHeartbeats 3200000 in
theorem run_no (w : World) (ca : Option Addr) (n cc : Nat) (wa : Option Addr) (m wc : Nat) (lk rg : Int) (A : Nat → Option Addr) (L C : Nat → Nat) (X : Nat → Nat → Nat → Int) (x y z : Int) (HR : Hid (chk n L X m lk rg = (x, y, z))) (hx : (x != 0) = true) (hp : PIn w ca n A L C X) (sa : Option Addr) (sl sc : Nat) :
    Calls Try.prog 9 #[prgV ca n cc wa m wc lk rg, .slice sa sl sc] w fun e w' => e = .returned (.tuple #[.agg #[nilV, .int .i64 0, nilV, .int .i64 0], ints3 x y z]) ∧ Below w.heap.size w w' := by
  have HB : ∀ W, Below w.heap.size w W → PIn W ca n A L C X := fun W hb => hp.below hb
  go_enter Try.func9, Try.ntmps9
  go_wp2_with (fail)
  refine (check_any ca n cc wa m wc lk rg A L C X x y z HR _ (HB _ ((((Below.refl _ _).alloc (Nat.le_refl _) _).alloc (by simp) _).alloc (by simp; omega) _))).mono ?_
  rintro e w1 ⟨rfl, hb1⟩
  have hs1 := hb1.size
  simp only [World.size_alloc] at hs1
  have HB1 : Below w.heap.size w w1 := ((((Below.refl _ _).alloc (Nat.le_refl _) _).alloc (by simp) _).alloc (by simp; omega) _).trans (hb1.mono (by simp; omega))
  obtain ⟨hT, hF⟩ := res_two hb1
  have t0 : ∀ o, (w1.alloc o).cell? ⟨w.heap.size + 1, 0, none⟩ = some nilV := fun o => box_cell (box_later hT o) rfl
  have t1 : ∀ o, (w1.alloc o).cell? ⟨w.heap.size + 1, 1, none⟩ = some (.int .i64 0) := fun o => box_cell (box_later hT o) rfl
  have t2 : ∀ o, (w1.alloc o).cell? ⟨w.heap.size + 1, 2, none⟩ = some nilV := fun o => box_cell (box_later hT o) rfl
  have t3 : ∀ o, (w1.alloc o).cell? ⟨w.heap.size + 1, 3, none⟩ = some (.int .i64 0) := fun o => box_cell (box_later hT o) rfl
  have u0 : ∀ o, (w1.alloc o).cell? ⟨w.heap.size + 1 + 1, 0, none⟩ = some (.int .i64 0) := fun o => box_cell (box_later hF o) rfl
  have u1 : ∀ o, (w1.alloc o).cell? ⟨w.heap.size + 1 + 1, 1, none⟩ = some (.int .i64 0) := fun o => box_cell (box_later hF o) rfl
  have u2 : ∀ o, (w1.alloc o).cell? ⟨w.heap.size + 1 + 1, 2, none⟩ = some (.int .i64 0) := fun o => box_cell (box_later hF o) rfl
  have tf : ∀ o i, (w1.alloc o).frozen? ⟨w.heap.size + 1, i, none⟩ = false := fun o i => box_free (box_later hT o)
  have uf : ∀ o i, (w1.alloc o).frozen? ⟨w.heap.size + 1 + 1, i, none⟩ = false := fun o i => box_free (box_later hF o)
  have n1 : w1.heap.size ≠ w.heap.size + 1 := by omega
  have n2 : w1.heap.size ≠ w.heap.size + 1 + 1 := by omega
  have n3 : w.heap.size + 1 ≠ w1.heap.size := by omega
  have n4 : w.heap.size + 1 + 1 ≠ w1.heap.size := by omega
  clear hb1 hT hF HB
  go_wp2_with (fail)
  go_region
  all_goals go_wp2
  have hB : Below w.heap.size w (w1.alloc (.cells #[.int .i64 x, .int .i64 y, .int .i64 z] 29)) := HB1.alloc HB1.size _
  all_goals refine bodyPost_ret (v := .tuple #[.agg #[nilV, .int .i64 0, nilV, .int .i64 0], ints3 x y z]) (by simp [results, Try.results9, go_sem, t0, t1, t2, t3, u0, u1, u2]) rfl ⟨rfl, ?_⟩
  all_goals exact (((((((hB.setCell (Nat.le_succ _) _).setCell (Nat.le_succ _) _).setCell (Nat.le_succ _) _).setCell (Nat.le_succ _) _).setCell (by show _ ≤ w.heap.size + 1 + 1; omega) _).setCell (by show _ ≤ w.heap.size + 1 + 1; omega) _).setCell (by show _ ≤ w.heap.size + 1 + 1; omega) _).drew

end Go.Proofs.Ytipdnfpomdcenaa
