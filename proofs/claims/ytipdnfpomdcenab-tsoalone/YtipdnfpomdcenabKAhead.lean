/-
  How vast a program is, whether two lists are the same, by the second set of statements; runs by scripts that go on with noughts, and of one thread.
  The program of two threads that the statements run by themselves.
-/
import Derived.Test.YtipdnfpomdcenabSameI
import Derived.Test.YtipdnfpomdcenabVast
import Derived.Test.YtipdnfpomdcenabRDoW
import Derived.Test.YtipdnfpomdcenabPRunN
namespace Go.Proofs.Ytipdnfpomdcenab
section
open Go.RowKit

set_option maxHeartbeats 1000000 in
theorem kvast_any (ca : Option Addr) (n cc : Nat) (wa : Option Addr) (m wc : Nat) (lk rg : Int) (A : Nat → Option Addr) (L C : Nat → Nat) (X : Nat → Nat → Nat → Int) (_hm : m ≤ 9223372036854775807) (w : World) (hp : PIn w ca n A L C X) :
    Calls Try.prog 12 #[prgV ca n cc wa m wc lk rg] w fun e w' => IsBool e ∧ Below w.heap.size w w' := by
  have hn := hp.num
  have HB : Below w.heap.size w (w.alloc (.cells #[.slice ca n cc, .slice wa m wc, .int .i64 lk, .int .i64 rg] 25)) := (Below.refl _ _).alloc (Nat.le_refl _) _
  have hp2 := hp.below HB
  clear hp
  go_enter Try.func12, Try.ntmps12
  go_wp2
  go_loop [3, 4] (fun s i => ∃ (q : Int) (k : Nat), k ≤ n ∧ s = .int .i64 q ∧ i = .int .i64 k) (fun _ i => n - (intOf i).toNat)
  case atStart => exact ⟨_, 0, Nat.zero_le _, rfl, rfl⟩
  case round =>
    obtain ⟨q, k, hk, rfl, rfl⟩ := hrel
    by_cases hlt : k < n
    · obtain ⟨cb, co, rfl, hcell⟩ := hp2.code k hlt
      have hl := hp2.len k hlt
      by_cases h100 : (k : Int) < 100
      · go_wp2
        go_round
        case rel => exact ⟨_, k + 1, by omega, rfl, by go_num⟩
        case measure => simp [intOf]; omega
      · go_wp2
        all_goals go_ret
        all_goals exact ⟨⟨_, rfl⟩, HB⟩
    · go_wp2
      all_goals go_ret
      all_goals exact ⟨⟨_, rfl⟩, HB⟩

set_option maxHeartbeats 800000 in
theorem kints_same (a a' : Option Addr) (n c c' : Nat) (hn : n ≤ 9223372036854775807) (X : Nat → Int) (w : World) (h : IIn w a n X) (h' : IIn w a' n X) :
    Calls Try.prog 14 #[.slice a n c, .slice a' n c'] w fun e w' => e = .returned (.bool true) ∧ Below w.heap.size w w' := by
  go_enter Try.func14, Try.ntmps14
  go_wp2
  go_loopw [5] (fun i wr => ∃ k : Nat, k ≤ n ∧ i = .int .i64 k ∧ Below w.heap.size w wr) (fun i _ => n - (intOf i).toNat)
  case atStart => exact ⟨0, Nat.zero_le _, rfl, Below.refl _ _⟩
  case round =>
    obtain ⟨k, hk, rfl, hbr⟩ := hrel
    by_cases hlt : k < n
    · obtain ⟨b, o, rfl, hc⟩ := h.below hbr k hlt
      obtain ⟨b', o', rfl, hc'⟩ := h'.below hbr k hlt
      go_wp2
      go_region
      all_goals go_wp2
      all_goals go_roundw
      case rel => exact ⟨k + 1, by omega, by go_num, hbr.drew⟩
      case measure => simp [intOf]; omega
    · go_wp2
      go_ret
      exact ⟨rfl, hbr⟩

/-! Scripts that go on with noughts. -/
theorem pick_noughts (k : Nat) (sc z : List Int) (hz : ∀ x ∈ z, x = 0) : (pickX k (sc ++ z)).1 = (pickX k sc).1 ∧ ∃ z', (∀ x ∈ z', x = 0) ∧ (pickX k (sc ++ z)).2 = (pickX k sc).2 ++ z' := by
  unfold pickX
  by_cases hk : k < 2
  · rw [if_pos hk, if_pos hk]
    exact ⟨rfl, z, hz, rfl⟩
  · rw [if_neg hk, if_neg hk]
    cases sc with
    | nil =>
      cases z with
      | nil => exact ⟨rfl, [], by simp, rfl⟩
      | cons x r =>
        have hx : x = 0 := hz x (by simp)
        subst hx
        exact ⟨by show (Int.emod 0 (k : Int)).toNat = 0; rw [show Int.emod 0 (k : Int) = 0 from Int.zero_emod _]; rfl, r, fun y hy => hz y (by simp [hy]), rfl⟩
    | cons x r => exact ⟨rfl, z, hz, rfl⟩
theorem run_noughts {L : Nat → Nat} {X : Nat → Nat → Nat → Int} {mode : Int} : ∀ (f : Nat) (s : Sx) (k : Nat) (sc z : List Int), (∀ x ∈ z, x = 0) → runX L X mode f s k (sc ++ z) = runX L X mode f s k sc
  | f, s, k, sc, z, hz => by
    by_cases he : endedX L s = true
    · rw [run_ended he, run_ended he]
    · have he : endedX L s = false := by simpa using he
      by_cases hm : movesX L X mode s = []
      · rw [run_stuck he hm, run_stuck he hm]
      · cases f with
        | zero => rw [run_out he hm, run_out he hm]
        | succ f =>
          rw [run_step he hm, run_step he hm]
          obtain ⟨h1, z', h2, h3⟩ := pick_noughts (movesX L X mode s).length sc z hz
          rw [h1, h3]
          split
          · rfl
          · exact run_noughts f _ _ _ _ h2
/-- One thread, nothing that waits: there is one thing to pick at most. -/
theorem moves_one {n : Nat} {L : Nat → Nat} {X : Nat → Nat → Nat → Int} {m lk rg : Nat} {s : Sx} (h : SOk n L m lk rg 0 s) (h1 : n = 1) : (movesX L X 0 s).length < 2 := by
  have hl := h.ths
  rw [h1] at hl
  have hb := h.bare rfl 0 (by omega)
  unfold movesX
  rw [hl]
  show (([0] : List Nat).flatMap _).length < 2
  simp only [List.flatMap_cons, List.flatMap_nil, List.append_nil]
  unfold movesT
  rw [hb]
  split <;> simp
theorem run_alone {n : Nat} {L : Nat → Nat} {X : Nat → Nat → Nat → Int} {m lk rg : Nat} (hc : COk n L X m lk rg) (h1 : n = 1) : ∀ (f : Nat) (s : Sx) (k : Nat) (sc sc' : List Int), SOk n L m lk rg 0 s → runX L X 0 f s k sc = runX L X 0 f s k sc'
  | f, s, k, sc, sc', h => by
    by_cases he : endedX L s = true
    · rw [run_ended he, run_ended he]
    · have he : endedX L s = false := by simpa using he
      by_cases hm : movesX L X 0 s = []
      · rw [run_stuck he hm, run_stuck he hm]
      · cases f with
        | zero => rw [run_out he hm, run_out he hm]
        | succ f =>
          have hl := moves_one (X := X) h h1
          have hl0 : 0 < (movesX L X 0 s).length := List.length_pos_iff.mpr hm
          have hp : ∀ sc, pickX (movesX L X 0 s).length sc = (0, sc) := fun sc => by unfold pickX; rw [if_pos hl]
          rw [run_step he hm, run_step he hm, hp, hp]
          obtain ⟨t, ht, e, ha⟩ := movesX_zero h (List.getElem_mem hl0)
          have e2 : (movesX L X 0 s).getD 0 0 = 8 * (t : Int) := by
            rw [List.getD_eq_getElem?_getD, List.getElem?_eq_getElem hl0]; exact e
          have e3 : (8 * (t : Int)).toNat = 8 * t := by omega
          simp only
          rw [e2, e3]
          split
          · rfl
          · exact run_alone hc h1 f _ _ _ _ (h.step hc (by omega) ht ha)
end

section
open Go.RowKit

def bufT (t : Nat) : List Int := if t = 0 then [1, 0, 1, 0, 9, 0, 0, 0, 8, 1, 1, 0, 16, 1, 0, 0] else [1, 0, 1, 0, 9, 1, 0, 0, 8, 1, 0, 0, 16, 1, 0, 0]
def bufL : Nat → Nat := fun _ => 4
def bufX : Nat → Nat → Nat → Int := fun t i q => (bufT t).getD (i * 4 + q) 0
def bufA (b : Nat) : Nat → Option Addr := fun t => some ⟨b + 1 + t, 0, none⟩
theorem buf_cell {t i q : Nat} (hi : i < 4) (hq : q < 4) : (intsV (bufT t)).toArray[i * 4 + q]? = some (.int .i64 (bufX t i q)) := by
  have hl : (bufT t).length = 16 := by unfold bufT; split <;> rfl
  have h := intsV_at (l := bufT t) (i := i * 4 + q) (by rw [hl]; omega)
  simpa [bufX] using h
/-- Where the two threads' program lies. -/
structure IsBuf (d : Nat) (w w' : World) : Prop where
  prog : PIn w' (some ⟨d + 3, 0, none⟩) 2 (bufA d) bufL (fun _ => 4) bufX
  words : SIs w' (some ⟨d + 4, 0, none⟩) [0, 0]
  below : Below w.heap.size w w'
  size : d + 5 ≤ w'.heap.size
set_option maxRecDepth 100000 in
set_option maxHeartbeats 1600000 in
theorem buffers_any (w : World) (d : Nat) (hd : w.heap.size = d) : Calls Try.prog 11 #[] w fun e w' => e = .returned (prgV (some ⟨d + 3, 0, none⟩) 2 2 (some ⟨d + 4, 0, none⟩) 2 2 0 2) ∧ IsBuf d w w' := by
  subst hd
  have HF : Hid (∀ O0 : Obj, IsBuf w.heap.size w (((((w.alloc O0).alloc (.cells (intsV (bufT 0)).toArray 46)).alloc (.cells (intsV (bufT 1)).toArray 46)).alloc (.cells #[.slice (some ⟨w.heap.size + 1, 0, none⟩) 4 4, .slice (some ⟨w.heap.size + 1 + 1, 0, none⟩) 4 4] 41)).alloc (.cells #[.int .i64 0, .int .i64 0] 3))) := fun O0 => by
    obtain ⟨O1, h1⟩ : ∃ o : Obj, o = .cells (intsV (bufT 0)).toArray 46 := ⟨_, rfl⟩
    obtain ⟨O2, h2⟩ : ∃ o : Obj, o = .cells (intsV (bufT 1)).toArray 46 := ⟨_, rfl⟩
    obtain ⟨O3, h3⟩ : ∃ o : Obj, o = .cells #[.slice (some ⟨w.heap.size + 1, 0, none⟩) 4 4, .slice (some ⟨w.heap.size + 1 + 1, 0, none⟩) 4 4] 41 := ⟨_, rfl⟩
    obtain ⟨O4, h4⟩ : ∃ o : Obj, o = .cells #[.int .i64 0, .int .i64 0] 3 := ⟨_, rfl⟩
    rw [← h1, ← h2, ← h3, ← h4]
    have b1 : (((((w.alloc O0).alloc O1).alloc O2).alloc O3).alloc O4).heap[w.heap.size + 1]? = some O1 := box_later (box_later (box_later (by have := heap_alloc_new (w.alloc O0) O1; rwa [World.size_alloc] at this) O2) O3) O4
    have b2 : (((((w.alloc O0).alloc O1).alloc O2).alloc O3).alloc O4).heap[w.heap.size + 1 + 1]? = some O2 := box_later (box_later (by have := heap_alloc_new ((w.alloc O0).alloc O1) O2; rwa [World.size_alloc, World.size_alloc] at this) O3) O4
    have b3 : (((((w.alloc O0).alloc O1).alloc O2).alloc O3).alloc O4).heap[w.heap.size + 1 + 1 + 1]? = some O3 := box_later (by have := heap_alloc_new (((w.alloc O0).alloc O1).alloc O2) O3; rwa [World.size_alloc, World.size_alloc, World.size_alloc] at this) O4
    have b4 : (((((w.alloc O0).alloc O1).alloc O2).alloc O3).alloc O4).heap[w.heap.size + 1 + 1 + 1 + 1]? = some O4 := by have := heap_alloc_new ((((w.alloc O0).alloc O1).alloc O2).alloc O3) O4; rwa [World.size_alloc, World.size_alloc, World.size_alloc, World.size_alloc] at this
    have hbel : Below w.heap.size w (((((w.alloc O0).alloc O1).alloc O2).alloc O3).alloc O4) := (((((Below.refl _ _).alloc (Nat.le_refl _) _).alloc (by simp) _).alloc (by simp; omega) _).alloc (by simp; omega) _).alloc (by simp; omega) _
    have hsz : (((((w.alloc O0).alloc O1).alloc O2).alloc O3).alloc O4).heap.size = w.heap.size + 5 := by simp
    obtain ⟨W, hW⟩ : ∃ W, W = (((((w.alloc O0).alloc O1).alloc O2).alloc O3).alloc O4) := ⟨_, rfl⟩
    rw [← hW] at b1 b2 b3 b4 hbel hsz ⊢
    rw [h1] at b1
    rw [h2] at b2
    rw [h3] at b3
    rw [h4] at b4
    refine ⟨⟨fun t ht => ⟨w.heap.size + 3, 0, rfl, ?_⟩, fun t i ht hi => ?_, fun t ht => by unfold bufL; omega, by omega⟩, fun i hi => ⟨w.heap.size + 4, 0, rfl, ?_⟩, hbel, by omega⟩
    · match t, ht with
      | 0, _ => exact box_cell b3 rfl
      | 1, _ => exact box_cell b3 rfl
    · have hi4 : i < 4 := hi
      match t, ht with
      | 0, _ =>
        refine ⟨w.heap.size + 1, 0, rfl, ?_, ?_, ?_, ?_⟩
        · have := box_cell b1 (buf_cell (t := 0) (i := i) (q := 0) hi4 (by omega)); simpa using this
        · have := box_cell b1 (buf_cell (t := 0) (i := i) (q := 1) hi4 (by omega)); simpa using this
        · have := box_cell b1 (buf_cell (t := 0) (i := i) (q := 2) hi4 (by omega)); simpa using this
        · have := box_cell b1 (buf_cell (t := 0) (i := i) (q := 3) hi4 (by omega)); simpa using this
      | 1, _ =>
        refine ⟨w.heap.size + 1 + 1, 0, rfl, ?_, ?_, ?_, ?_⟩
        · have := box_cell b2 (buf_cell (t := 1) (i := i) (q := 0) hi4 (by omega)); simpa using this
        · have := box_cell b2 (buf_cell (t := 1) (i := i) (q := 1) hi4 (by omega)); simpa using this
        · have := box_cell b2 (buf_cell (t := 1) (i := i) (q := 2) hi4 (by omega)); simpa using this
        · have := box_cell b2 (buf_cell (t := 1) (i := i) (q := 3) hi4 (by omega)); simpa using this
    · match i, hi with
      | 0, _ => exact box_cell b4 rfl
      | 1, _ => exact box_cell b4 rfl
  go_enter Try.func11, Try.ntmps11
  go_wp2
  refine bodyPost_ret (v := prgV (some ⟨w.heap.size + 3, 0, none⟩) 2 2 (some ⟨w.heap.size + 4, 0, none⟩) 2 2 0 2) (by simp [results, Try.results11, go_sem]) rfl ⟨rfl, HF.out _⟩

theorem buf_chk : chk 2 bufL bufX 2 0 2 = (0, 0, 0) := by kernel_rfl
theorem buf_cok : COk 2 bufL bufX 2 0 2 := by
  obtain ⟨_, _, _, lk', rg', h1, h2, h3⟩ := chk_cok buf_chk rfl
  obtain rfl : lk' = 0 := by omega
  obtain rfl : rg' = 2 := by omega
  exact h3
/-- What the run of the two threads by no script comes to. -/
theorem buf_run0 : (runX bufL bufX 0 5000 (beginX 2 [0, 0] 0 2) 0 []).2 = (0, 8) ∧ (runX bufL bufX 0 5000 (beginX 2 [0, 0] 0 2) 0 []).1.prints = [0, 0, 1, 1] := ⟨by kernel_rfl, by kernel_rfl⟩
end

end Go.Proofs.Ytipdnfpomdcenab
