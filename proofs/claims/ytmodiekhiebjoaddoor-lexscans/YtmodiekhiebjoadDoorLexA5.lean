/-
  The program's tokens: what was taken.
-/
import Derived.Test.YtmodiekhiebjoadDoorLexA4
import Derived.Deep.RegionHeld3
namespace Go.Proofs.YtmodiekhiebjoadDoor
open Go.RowKit

theorem wrap_less (k t : Nat) (h : k ≤ 4000) (h2 : t ≤ k) : IntKind.i64.wrap ((k : Int) - (t : Int)) = (k : Int) - (t : Int) := by
  rw [IntKind.wrap_i64]
  omega
theorem clone_any (t : ByteArray) (ht : t.size ≤ 4000) (w : World) :
    Calls Tryd.prog 34 #[.string t] w fun e w' => e = .returned (.string t) ∧ Below w.heap.size w w' := by
  go_enter Tryd.func34, Tryd.ntmps34
  go_wp2_with (first | (go_at_call 37; refine (Tryd.stringslite_Clone t _ (by omega)).mono ?_; rintro e w' ⟨rfl, hb⟩))
  go_ret
  exact ⟨rfl, hb⟩

set_option maxHeartbeats 800000 in
theorem taken_any (sb : Nat) (s : ByteArray) (k : Nat) (hk : k ≤ 4000) (kind : Int) (t : ByteArray) (ht : t.size ≤ k) (w : World) (h : Sc w sb s k) :
    Calls Tryd.prog 31 #[.pointer (some ⟨sb, 0, none⟩), .int .i64 kind, .string t] w fun e w' => e = .returned (.agg #[.int .i64 kind, .int .i64 0, .int .i64 ((k : Int) - (t.size : Int)), .string t]) ∧ Below w.heap.size w w' := by
  have h0 := h.c0
  have h1 := h.c1
  go_enter Tryd.func31, Tryd.ntmps31
  go_wp2_with fail
  obtain ⟨V, hV⟩ : ∃ V, w.alloc (.cells #[.int .i64 0, .int .i64 0, .int .i64 0, .string ⟨#[]⟩] 29) = V := ⟨_, rfl⟩
  have hbV : Below w.heap.size w V := by rw [← hV]; exact (Below.refl _ _).alloc (Nat.le_refl _) _
  have hxV : V.heap[w.heap.size]? = some (.cells #[.int .i64 0, .int .i64 0, .int .i64 0, .string ⟨#[]⟩] 29) := by rw [← hV]; exact heap_alloc_new _ _
  have hlV : w.heap.size < V.heap.size := by rw [← hV]; simp
  have v1 : V.cell? ⟨sb, 1, none⟩ = some (.int .i64 (k : Int)) := (h.below hbV).c1
  have HSV : Hid (sb < V.heap.size) := (h.below hbV).lt
  have hne : ¬ sb = w.heap.size := by have := h.lt; omega
  have hne' : ¬ w.heap.size = sb := fun e => hne e.symm
  rw [hV]
  have q0 : V.cell? ⟨w.heap.size, 0, none⟩ = some (.int .i64 0) := box_cell hxV rfl
  have q1 : V.cell? ⟨w.heap.size, 1, none⟩ = some (.int .i64 0) := box_cell hxV rfl
  have q2 : V.cell? ⟨w.heap.size, 2, none⟩ = some (.int .i64 0) := box_cell hxV rfl
  have q3 : V.cell? ⟨w.heap.size, 3, none⟩ = some (.string ⟨#[]⟩) := box_cell hxV rfl
  have qf : ∀ i, V.frozen? ⟨w.heap.size, i, none⟩ = false := fun i => box_free hxV
  have HLV : Hid (w.heap.size < V.heap.size) := hlV
  have HBV := Hid.out (p := Hid _) hbV
  clear hV h h0 h1 hxV hlV hbV
  go_region_held3 (fun w' => w'.cell? ⟨sb, 1, none⟩ = some (.int .i64 (k : Int))) (go_keep)
    (first | (go_at_call 34; refine (clone_any t (by omega) _).mono ?_; rintro e w7 ⟨rfl, hb7⟩; have hc7 := hb7.cell (p := ⟨sb, 1, none⟩) HSV.out; have hd7 := fun i => hb7.cell (p := ⟨w.heap.size, i, none⟩) HLV.out; have hf7 := fun i => hb7.frozen (p := ⟨w.heap.size, i, none⟩) HLV.out))
  rw [wrap_less k t.size hk ht]
  go_wp2
  have hw7 : Below w.heap.size w w7 := HBV.out.trans (Below.mono ((Below.refl _ _).drew.trans hb7) HBV.out.size)
  refine bodyPost_ret (v := .agg #[.int .i64 kind, .int .i64 0, .int .i64 ((k : Int) - (t.size : Int)), .string t]) (by simp [results, Tryd.results31, go_sem, hd7, q0, q1, q2, q3]) rfl ⟨rfl, ?_⟩
  exact (((hw7.setCell (Nat.le_refl _) _).setCell (Nat.le_refl _) _).setCell (Nat.le_refl _) _).setCell (Nat.le_refl _) _

end Go.Proofs.YtmodiekhiebjoadDoor
