/-
  The program of two threads that the statements run by themselves: where it lies.
-/
import Derived.Test.YtocfocjnnjdcgaaDoorPChk
import Derived.Test.YtocfocjnnjdcgaaDoorBox
import Derived.Test.YtocfocjnnjdcgaaDoorAppB
namespace Go.Proofs.YtocfocjnnjdcgaaDoor
open Go.RowKit

def bufT (t : Nat) : List Int := if t = 0 then [1, 0, 1, 0, 9, 0, 0, 0, 8, 1, 1, 0, 16, 1, 0, 0] else [1, 0, 1, 0, 9, 1, 0, 0, 8, 1, 0, 0, 16, 1, 0, 0]
def bufL : Nat → Nat := fun _ => 4
def bufX : Nat → Nat → Nat → Int := fun t i q => (bufT t).getD (i * 4 + q) 0
def bufA (b : Nat) : Nat → Option Addr := fun t => some ⟨b + 1 + t, 0, none⟩
theorem buf_cell {t i q : Nat} (hi : i < 4) (hq : q < 4) : (intsV (bufT t)).toArray[i * 4 + q]? = some (.int .i64 (bufX t i q)) := by
  have hl : (bufT t).length = 16 := by unfold bufT; split <;> rfl
  have h := intsV_at (l := bufT t) (i := i * 4 + q) (by rw [hl]; omega)
  simpa [bufX] using h
/-- Where the two threads' program lies. -/
structure IsBuf (d : Nat) (w w' : World) : Prop where
  prog : PIn w' (some ⟨d + 3, 0, none⟩) 2 (bufA d) bufL (fun _ => 4) bufX
  words : SIs w' (some ⟨d + 4, 0, none⟩) [0, 0]
  below : Below w.heap.size w w'
  size : d + 5 ≤ w'.heap.size
set_option maxRecDepth 100000 in
set_option maxHeartbeats 1600000 in
theorem buffers_any (w : World) (d : Nat) (hd : w.heap.size = d) : Calls Tryd.prog 15 #[] w fun e w' => e = .returned (prgV (some ⟨d + 3, 0, none⟩) 2 2 (some ⟨d + 4, 0, none⟩) 2 2 0 2) ∧ IsBuf d w w' := by
  subst hd
  have HF : Hid (∀ O0 : Obj, IsBuf w.heap.size w (((((w.alloc O0).alloc (.cells (intsV (bufT 0)).toArray 55)).alloc (.cells (intsV (bufT 1)).toArray 55)).alloc (.cells #[.slice (some ⟨w.heap.size + 1, 0, none⟩) 4 4, .slice (some ⟨w.heap.size + 1 + 1, 0, none⟩) 4 4] 36)).alloc (.cells #[.int .i64 0, .int .i64 0] 3))) := fun O0 => by
    obtain ⟨O1, h1⟩ : ∃ o : Obj, o = .cells (intsV (bufT 0)).toArray 55 := ⟨_, rfl⟩
    obtain ⟨O2, h2⟩ : ∃ o : Obj, o = .cells (intsV (bufT 1)).toArray 55 := ⟨_, rfl⟩
    obtain ⟨O3, h3⟩ : ∃ o : Obj, o = .cells #[.slice (some ⟨w.heap.size + 1, 0, none⟩) 4 4, .slice (some ⟨w.heap.size + 1 + 1, 0, none⟩) 4 4] 36 := ⟨_, rfl⟩
    obtain ⟨O4, h4⟩ : ∃ o : Obj, o = .cells #[.int .i64 0, .int .i64 0] 3 := ⟨_, rfl⟩
    rw [← h1, ← h2, ← h3, ← h4]
    have b1 : (((((w.alloc O0).alloc O1).alloc O2).alloc O3).alloc O4).heap[w.heap.size + 1]? = some O1 := box_later (box_later (box_later (by have := heap_alloc_new (w.alloc O0) O1; rwa [World.size_alloc] at this) O2) O3) O4
    have b2 : (((((w.alloc O0).alloc O1).alloc O2).alloc O3).alloc O4).heap[w.heap.size + 1 + 1]? = some O2 := box_later (box_later (by have := heap_alloc_new ((w.alloc O0).alloc O1) O2; rwa [World.size_alloc, World.size_alloc] at this) O3) O4
    have b3 : (((((w.alloc O0).alloc O1).alloc O2).alloc O3).alloc O4).heap[w.heap.size + 1 + 1 + 1]? = some O3 := box_later (by have := heap_alloc_new (((w.alloc O0).alloc O1).alloc O2) O3; rwa [World.size_alloc, World.size_alloc, World.size_alloc] at this) O4
    have b4 : (((((w.alloc O0).alloc O1).alloc O2).alloc O3).alloc O4).heap[w.heap.size + 1 + 1 + 1 + 1]? = some O4 := by have := heap_alloc_new ((((w.alloc O0).alloc O1).alloc O2).alloc O3) O4; rwa [World.size_alloc, World.size_alloc, World.size_alloc, World.size_alloc] at this
    have hbel : Below w.heap.size w (((((w.alloc O0).alloc O1).alloc O2).alloc O3).alloc O4) := (((((Below.refl _ _).alloc (Nat.le_refl _) _).alloc (by simp) _).alloc (by simp; omega) _).alloc (by simp; omega) _).alloc (by simp; omega) _
    have hsz : (((((w.alloc O0).alloc O1).alloc O2).alloc O3).alloc O4).heap.size = w.heap.size + 5 := by simp
    obtain ⟨W, hW⟩ : ∃ W, W = (((((w.alloc O0).alloc O1).alloc O2).alloc O3).alloc O4) := ⟨_, rfl⟩
    rw [← hW] at b1 b2 b3 b4 hbel hsz ⊢
    rw [h1] at b1
    rw [h2] at b2
    rw [h3] at b3
    rw [h4] at b4
    refine ⟨⟨fun t ht => ⟨w.heap.size + 3, 0, rfl, ?_⟩, fun t i ht hi => ?_, fun t ht => by unfold bufL; omega, by omega⟩, fun i hi => ⟨w.heap.size + 4, 0, rfl, ?_⟩, hbel, by omega⟩
    · match t, ht with
      | 0, _ => exact box_cell b3 rfl
      | 1, _ => exact box_cell b3 rfl
    · have hi4 : i < 4 := hi
      match t, ht with
      | 0, _ =>
        refine ⟨w.heap.size + 1, 0, rfl, ?_, ?_, ?_, ?_⟩
        · have := box_cell b1 (buf_cell (t := 0) (i := i) (q := 0) hi4 (by omega)); simpa using this
        · have := box_cell b1 (buf_cell (t := 0) (i := i) (q := 1) hi4 (by omega)); simpa using this
        · have := box_cell b1 (buf_cell (t := 0) (i := i) (q := 2) hi4 (by omega)); simpa using this
        · have := box_cell b1 (buf_cell (t := 0) (i := i) (q := 3) hi4 (by omega)); simpa using this
      | 1, _ =>
        refine ⟨w.heap.size + 1 + 1, 0, rfl, ?_, ?_, ?_, ?_⟩
        · have := box_cell b2 (buf_cell (t := 1) (i := i) (q := 0) hi4 (by omega)); simpa using this
        · have := box_cell b2 (buf_cell (t := 1) (i := i) (q := 1) hi4 (by omega)); simpa using this
        · have := box_cell b2 (buf_cell (t := 1) (i := i) (q := 2) hi4 (by omega)); simpa using this
        · have := box_cell b2 (buf_cell (t := 1) (i := i) (q := 3) hi4 (by omega)); simpa using this
    · match i, hi with
      | 0, _ => exact box_cell b4 rfl
      | 1, _ => exact box_cell b4 rfl
  go_enter Tryd.func15, Tryd.ntmps15
  go_wp2
  refine bodyPost_ret (v := prgV (some ⟨w.heap.size + 3, 0, none⟩) 2 2 (some ⟨w.heap.size + 4, 0, none⟩) 2 2 0 2) (by simp [results, Tryd.results15, go_sem]) rfl ⟨rfl, HF.out _⟩

theorem buf_chk : chk 2 bufL bufX 2 0 2 = (0, 0, 0) := by kernel_rfl
theorem buf_cok : COk 2 bufL bufX 2 0 2 := by
  obtain ⟨_, _, _, lk', rg', h1, h2, h3⟩ := chk_cok buf_chk rfl
  obtain rfl : lk' = 0 := by omega
  obtain rfl : rg' = 2 := by omega
  exact h3

end Go.Proofs.YtocfocjnnjdcgaaDoor
