/-
  What the program's check of one order does.
  A program's orders as they lie in memory, and that they stay there while new memory is made.
  What the document says of runs, as plain functions: what waits, the state of a run, what can be picked, what a move does, a run's trace.
  The state of a run of the document, as it lies in memory; a thread's next order.
  The state of a run of the document as it lies in memory, with all its rows; what a store and an append make of it.
  What waits, as it lies in memory; whether one that waits may be done.
  What a thread finds in a word.
-/
import Derived.Test.YtipdnfpomdcenacGreatDoorTable
import Derived.Deep.RegionHeld3
import Derived.Test.YtipdnfpomdcenacGreatDoorPlain
import Derived.WalkKit
import Derived.WalkSpells
import Derived.WalkLawsBesides
namespace Go.Proofs.YtipdnfpomdcenacGreatDoor
section
open Go.RowKit

theorem zeroShape (w : World) : (zeroValue 121).run Tryz.prog w = .ok (.agg #[.string ⟨#[]⟩, .int .i64 0, .int .i64 0, .int .i64 0]) w := by kernel_rfl

theorem heap_two (w : World) (a b : Obj) (mb : Nat) (o : Obj) (h : w.heap[mb]? = some o) : ((w.alloc a).alloc b).heap[mb]? = some o := by
  have hl : mb < w.heap.size := by
    rcases Nat.lt_or_ge mb w.heap.size with h1 | h1
    · exact h1
    · rw [Array.getElem?_eq_none h1] at h; cases h
  rw [Below.heap_alloc _ _ _ (by simp; omega), Below.heap_alloc _ _ _ hl]; exact h

set_option maxHeartbeats 400000 in
theorem checkOrder_no (mb : Nat) (rg wd lk sz op a b c : Int) (ho : op < 1 ∨ 18 < op) (w : World) (hm : w.heap[mb]? = some (.map shapesArr 18)) :
    Calls Tryz.prog 29 #[ints4 op a b c, .map (some mb), ints6 1 rg wd lk (sz + 1) 0] w fun e w' => e = .returned (.int .i64 2) ∧ Below w.heap.size w w' := by
  have hl := run_look_no Tryz.underlying67 Tryz.underlying3 _ mb 18 shapesArr op _ (heap_two w (.cells #[.int .i64 op, .int .i64 a, .int .i64 b, .int .i64 c] 34) (.cells #[.int .i64 1, .int .i64 rg, .int .i64 wd, .int .i64 lk, .int .i64 (sz + 1), .int .i64 0] 70) mb _ hm) (zeroShape _) (find_out ho)
  clear hm
  go_enter Tryz.func29, Tryz.ntmps29
  go_wp2
  go_ret
  exact ⟨rfl, (((Below.refl _ _).alloc (Nat.le_refl _) _).alloc (by simp) _).alloc (by simp; omega) _⟩

set_option maxHeartbeats 1000000 in
theorem checkOrder_yes (mb : Nat) (rg wd lk sz op a b c x y z : Int) (j : Nat) (hk : kd op = some (x, y, z)) (hf : Instr.findNow (.int .i64) (.int .i64 op) shapesArr.toList 0 = some (some (j, .agg #[.string (nm op), .int .i64 x, .int .i64 y, .int .i64 z]))) (r : Int) (HR : Hid (r = if okN rg wd lk sz x a && okN rg wd lk sz y b && okN rg wd lk sz z c then 0 else 3)) (w : World) (hm : w.heap[mb]? = some (.map shapesArr 18)) :
    Calls Tryz.prog 29 #[ints4 op a b c, .map (some mb), ints6 1 rg wd lk (sz + 1) 0] w fun e w' => e = .returned (.int .i64 r) ∧ Below w.heap.size w w' := by
  have hl := run_look Tryz.underlying67 Tryz.underlying3 _ mb 18 shapesArr op j _ (heap_two w (.cells #[.int .i64 op, .int .i64 a, .int .i64 b, .int .i64 c] 34) (.cells #[.int .i64 1, .int .i64 rg, .int .i64 wd, .int .i64 lk, .int .i64 (sz + 1), .int .i64 0] 70) mb _ hm) hf
  obtain ⟨hx, hy, hz⟩ := kd_range hk
  clear hm hf hk
  have i0 : ∀ w, (Instr.index 124 (.agg #[.int .i64 a, .int .i64 b, .int .i64 c]) (.int .i64 0)).run Tryz.prog w = .ok (.int .i64 a) w := fun _ => by kernel_rfl
  have i1 : ∀ w, (Instr.index 124 (.agg #[.int .i64 a, .int .i64 b, .int .i64 c]) (.int .i64 1)).run Tryz.prog w = .ok (.int .i64 b) w := fun _ => by kernel_rfl
  have i2 : ∀ w, (Instr.index 124 (.agg #[.int .i64 a, .int .i64 b, .int .i64 c]) (.int .i64 2)).run Tryz.prog w = .ok (.int .i64 c) w := fun _ => by kernel_rfl
  go_enter Tryz.func29, Tryz.ntmps29
  go_wp2_with (first | (go_at_call 52; refine (numbersOf_any _ _ _ _ _).mono ?_; rintro e w1 ⟨rfl, hb1⟩))
  have hz1 : w.heap.size + 3 ≤ w1.heap.size := by have := hb1.size; simp at this; omega
  have l0 : w1.cell? ⟨w.heap.size + 1, 0, none⟩ = some (.int .i64 1) := (hb1.cell (p := ⟨w.heap.size + 1, 0, none⟩) (by simp)).trans (by go_simp)
  have l1 : w1.cell? ⟨w.heap.size + 1, 1, none⟩ = some (.int .i64 rg) := (hb1.cell (p := ⟨w.heap.size + 1, 1, none⟩) (by simp)).trans (by go_simp)
  have l2 : w1.cell? ⟨w.heap.size + 1, 2, none⟩ = some (.int .i64 wd) := (hb1.cell (p := ⟨w.heap.size + 1, 2, none⟩) (by simp)).trans (by go_simp)
  have l3 : w1.cell? ⟨w.heap.size + 1, 3, none⟩ = some (.int .i64 lk) := (hb1.cell (p := ⟨w.heap.size + 1, 3, none⟩) (by simp)).trans (by go_simp)
  have l4 : w1.cell? ⟨w.heap.size + 1, 4, none⟩ = some (.int .i64 (sz + 1)) := (hb1.cell (p := ⟨w.heap.size + 1, 4, none⟩) (by simp)).trans (by go_simp)
  have l5 : w1.cell? ⟨w.heap.size + 1, 5, none⟩ = some (.int .i64 0) := (hb1.cell (p := ⟨w.heap.size + 1, 5, none⟩) (by simp)).trans (by go_simp)
  have s1 : w1.cell? ⟨w.heap.size + 1 + 1, 1, none⟩ = some (.int .i64 x) := (hb1.cell (p := ⟨w.heap.size + 1 + 1, 1, none⟩) (by simp)).trans (by go_simp)
  have s2 : w1.cell? ⟨w.heap.size + 1 + 1, 2, none⟩ = some (.int .i64 y) := (hb1.cell (p := ⟨w.heap.size + 1 + 1, 2, none⟩) (by simp)).trans (by go_simp)
  have s3 : w1.cell? ⟨w.heap.size + 1 + 1, 3, none⟩ = some (.int .i64 z) := (hb1.cell (p := ⟨w.heap.size + 1 + 1, 3, none⟩) (by simp)).trans (by go_simp)
  have HB : Below w.heap.size w w1 := (((((Below.refl _ _).alloc (Nat.le_refl _) _).alloc (by simp) _).alloc (by simp; omega) _).trans (hb1.mono (by simp; omega)))
  clear hb1 hl
  go_loopw [22] (fun i wr => ∃ k : Int, (0 ≤ k ∧ k ≤ 3) ∧ i = .int .i64 k ∧ Below w1.heap.size w1 wr ∧ (0 < k → okN rg wd lk sz x a = true) ∧ (1 < k → okN rg wd lk sz y b = true) ∧ (2 < k → okN rg wd lk sz z c = true)) (fun i _ => 3 - (intOf i).toNat)
  case atStart => exact ⟨0, by omega, rfl, Below.refl _ _, by omega, by omega, by omega⟩
  case round =>
    obtain ⟨k, hk, rfl, hbr, ha, hb', hc'⟩ := hrel
    have hc := (fun b o (h : b < w1.heap.size) => hbr.cell (p := ⟨b, o, none⟩) h)
    rw [← hc _ _ (by omega)] at l0 l1 l2 l3 l4 l5 s1 s2 s3
    clear hc
    have hz3 : w.heap.size + 1 < wr.heap.size := by have := hbr.size; omega
    have hz4 : w.heap.size + 1 + 1 < wr.heap.size := by have := hbr.size; omega
    rcases (by omega : k = 0 ∨ k = 1 ∨ k = 2 ∨ k = 3) with rfl | rfl | rfl | rfl
    · by_cases hok : okN rg wd lk sz x a = true
      · go_wp2
        go_region_held3 (fun w' => w'.cell? ⟨w.heap.size + 1, 0, none⟩ = some (.int .i64 1) ∧ w'.cell? ⟨w.heap.size + 1, 1, none⟩ = some (.int .i64 rg) ∧ w'.cell? ⟨w.heap.size + 1, 2, none⟩ = some (.int .i64 wd) ∧ w'.cell? ⟨w.heap.size + 1, 3, none⟩ = some (.int .i64 lk) ∧ w'.cell? ⟨w.heap.size + 1, 4, none⟩ = some (.int .i64 (sz + 1)) ∧ w'.cell? ⟨w.heap.size + 1, 5, none⟩ = some (.int .i64 0) ∧ w'.cell? ⟨w.heap.size + 1 + 1, 1, none⟩ = some (.int .i64 x)) (go_keep)
          (first | (go_at_call 53; refine (allow_any rg wd lk sz x a hx _).mono ?_; rintro e w2 ⟨rfl, hb2⟩; have hc2 := fun b o (h : b < wr.heap.size) => hb2.cell (p := ⟨b, o, none⟩) h))
        go_wp2
        go_roundw
        case rel => exact ⟨1, by omega, by go_num, hbr.drew.trans (hb2.mono hbr.size), fun _ => hok, fun h => absurd h (by omega), fun h => absurd h (by omega)⟩
        case measure => simp [intOf]
      · have hno : okN rg wd lk sz x a = false := by simpa using hok
        clear hok
        go_wp2
        go_region_held3 (fun w' => w'.cell? ⟨w.heap.size + 1, 0, none⟩ = some (.int .i64 1) ∧ w'.cell? ⟨w.heap.size + 1, 1, none⟩ = some (.int .i64 rg) ∧ w'.cell? ⟨w.heap.size + 1, 2, none⟩ = some (.int .i64 wd) ∧ w'.cell? ⟨w.heap.size + 1, 3, none⟩ = some (.int .i64 lk) ∧ w'.cell? ⟨w.heap.size + 1, 4, none⟩ = some (.int .i64 (sz + 1)) ∧ w'.cell? ⟨w.heap.size + 1, 5, none⟩ = some (.int .i64 0) ∧ w'.cell? ⟨w.heap.size + 1 + 1, 1, none⟩ = some (.int .i64 x)) (go_keep)
          (first | (go_at_call 53; refine (allow_any rg wd lk sz x a hx _).mono ?_; rintro e w2 ⟨rfl, hb2⟩; have hc2 := fun b o (h : b < wr.heap.size) => hb2.cell (p := ⟨b, o, none⟩) h))
        go_wp2
        all_goals go_ret
        all_goals exact ⟨ret_int (by rw [HR.out]; simp [hno]), HB.trans ((hbr.mono HB.size).drew.trans (hb2.mono (Nat.le_trans HB.size hbr.size)))⟩
    · by_cases hok : okN rg wd lk sz y b = true
      · go_wp2
        go_region_held3 (fun w' => w'.cell? ⟨w.heap.size + 1, 0, none⟩ = some (.int .i64 1) ∧ w'.cell? ⟨w.heap.size + 1, 1, none⟩ = some (.int .i64 rg) ∧ w'.cell? ⟨w.heap.size + 1, 2, none⟩ = some (.int .i64 wd) ∧ w'.cell? ⟨w.heap.size + 1, 3, none⟩ = some (.int .i64 lk) ∧ w'.cell? ⟨w.heap.size + 1, 4, none⟩ = some (.int .i64 (sz + 1)) ∧ w'.cell? ⟨w.heap.size + 1, 5, none⟩ = some (.int .i64 0) ∧ w'.cell? ⟨w.heap.size + 1 + 1, 2, none⟩ = some (.int .i64 y)) (go_keep)
          (first | (go_at_call 53; refine (allow_any rg wd lk sz y b hy _).mono ?_; rintro e w2 ⟨rfl, hb2⟩; have hc2 := fun b o (h : b < wr.heap.size) => hb2.cell (p := ⟨b, o, none⟩) h))
        go_wp2
        go_roundw
        case rel => exact ⟨2, by omega, by go_num, hbr.drew.trans (hb2.mono hbr.size), fun _ => ha (by omega), fun _ => hok, fun h => absurd h (by omega)⟩
        case measure => simp [intOf]
      · have hno : okN rg wd lk sz y b = false := by simpa using hok
        clear hok
        go_wp2
        go_region_held3 (fun w' => w'.cell? ⟨w.heap.size + 1, 0, none⟩ = some (.int .i64 1) ∧ w'.cell? ⟨w.heap.size + 1, 1, none⟩ = some (.int .i64 rg) ∧ w'.cell? ⟨w.heap.size + 1, 2, none⟩ = some (.int .i64 wd) ∧ w'.cell? ⟨w.heap.size + 1, 3, none⟩ = some (.int .i64 lk) ∧ w'.cell? ⟨w.heap.size + 1, 4, none⟩ = some (.int .i64 (sz + 1)) ∧ w'.cell? ⟨w.heap.size + 1, 5, none⟩ = some (.int .i64 0) ∧ w'.cell? ⟨w.heap.size + 1 + 1, 2, none⟩ = some (.int .i64 y)) (go_keep)
          (first | (go_at_call 53; refine (allow_any rg wd lk sz y b hy _).mono ?_; rintro e w2 ⟨rfl, hb2⟩; have hc2 := fun b o (h : b < wr.heap.size) => hb2.cell (p := ⟨b, o, none⟩) h))
        go_wp2
        all_goals go_ret
        all_goals exact ⟨ret_int (by rw [HR.out]; simp [hno]), HB.trans ((hbr.mono HB.size).drew.trans (hb2.mono (Nat.le_trans HB.size hbr.size)))⟩
    · by_cases hok : okN rg wd lk sz z c = true
      · go_wp2
        go_region_held3 (fun w' => w'.cell? ⟨w.heap.size + 1, 0, none⟩ = some (.int .i64 1) ∧ w'.cell? ⟨w.heap.size + 1, 1, none⟩ = some (.int .i64 rg) ∧ w'.cell? ⟨w.heap.size + 1, 2, none⟩ = some (.int .i64 wd) ∧ w'.cell? ⟨w.heap.size + 1, 3, none⟩ = some (.int .i64 lk) ∧ w'.cell? ⟨w.heap.size + 1, 4, none⟩ = some (.int .i64 (sz + 1)) ∧ w'.cell? ⟨w.heap.size + 1, 5, none⟩ = some (.int .i64 0) ∧ w'.cell? ⟨w.heap.size + 1 + 1, 3, none⟩ = some (.int .i64 z)) (go_keep)
          (first | (go_at_call 53; refine (allow_any rg wd lk sz z c hz _).mono ?_; rintro e w2 ⟨rfl, hb2⟩; have hc2 := fun b o (h : b < wr.heap.size) => hb2.cell (p := ⟨b, o, none⟩) h))
        go_wp2
        go_roundw
        case rel => exact ⟨3, by omega, by go_num, hbr.drew.trans (hb2.mono hbr.size), fun _ => ha (by omega), fun _ => hb' (by omega), fun _ => hok⟩
        case measure => simp [intOf]
      · have hno : okN rg wd lk sz z c = false := by simpa using hok
        clear hok
        go_wp2
        go_region_held3 (fun w' => w'.cell? ⟨w.heap.size + 1, 0, none⟩ = some (.int .i64 1) ∧ w'.cell? ⟨w.heap.size + 1, 1, none⟩ = some (.int .i64 rg) ∧ w'.cell? ⟨w.heap.size + 1, 2, none⟩ = some (.int .i64 wd) ∧ w'.cell? ⟨w.heap.size + 1, 3, none⟩ = some (.int .i64 lk) ∧ w'.cell? ⟨w.heap.size + 1, 4, none⟩ = some (.int .i64 (sz + 1)) ∧ w'.cell? ⟨w.heap.size + 1, 5, none⟩ = some (.int .i64 0) ∧ w'.cell? ⟨w.heap.size + 1 + 1, 3, none⟩ = some (.int .i64 z)) (go_keep)
          (first | (go_at_call 53; refine (allow_any rg wd lk sz z c hz _).mono ?_; rintro e w2 ⟨rfl, hb2⟩; have hc2 := fun b o (h : b < wr.heap.size) => hb2.cell (p := ⟨b, o, none⟩) h))
        go_wp2
        all_goals go_ret
        all_goals exact ⟨ret_int (by rw [HR.out]; simp [hno]), HB.trans ((hbr.mono HB.size).drew.trans (hb2.mono (Nat.le_trans HB.size hbr.size)))⟩
    · have h1 := ha (by omega)
      have h2 := hb' (by omega)
      have h3 := hc' (by omega)
      clear ha hb' hc'
      go_wp2
      go_ret
      exact ⟨ret_int (by rw [HR.out]; simp [h1, h2, h3]), HB.trans (hbr.mono HB.size)⟩

theorem checkOrder_any (mb : Nat) (rg wd lk sz op a b c : Int) (w : World) (hm : w.heap[mb]? = some (.map shapesArr 18)) :
    Calls Tryz.prog 29 #[ints4 op a b c, .map (some mb), ints6 1 rg wd lk (sz + 1) 0] w fun e w' => e = .returned (.int .i64 (ordE rg wd lk sz op a b c)) ∧ Below w.heap.size w w' := by
  by_cases h : op < 1 ∨ 18 < op
  · have := checkOrder_no mb rg wd lk sz op a b c h w hm
    simpa only [ordE, kd_out h] using this
  · obtain ⟨j, x, y, z, hk, hf⟩ := find_in (op := op) (by omega)
    have := checkOrder_yes mb rg wd lk sz op a b c x y z j hk hf _ rfl w hm
    simpa only [ordE, hk] using this
end

section
open Go.RowKit

theorem lt_of_cell {w : World} {a : Addr} {v : Value} (h : w.cell? a = some v) : a.block < w.heap.size := by
  rcases Nat.lt_or_ge a.block w.heap.size with h1 | h1
  · exact h1
  · unfold World.cell? at h
    rw [Array.getElem?_eq_none h1] at h; cases h

/-- The threads' orders lie in w: thread t's slice is '.slice (A t) (L t) (C t)', its order i has the numbers 'X t i 0' to 'X t i 3'. -/
structure PIn (w : World) (ca : Option Addr) (n : Nat) (A : Nat → Option Addr) (L C : Nat → Nat) (X : Nat → Nat → Nat → Int) : Prop where
  code : ∀ t, t < n → ∃ b o, ca = some ⟨b, o, none⟩ ∧ w.cell? ⟨b, o + t, none⟩ = some (.slice (A t) (L t) (C t))
  ord : ∀ t i, t < n → i < L t → ∃ b o, A t = some ⟨b, o, none⟩ ∧ w.cell? ⟨b, o + i * 4, none⟩ = some (.int .i64 (X t i 0)) ∧ w.cell? ⟨b, o + i * 4 + 1, none⟩ = some (.int .i64 (X t i 1)) ∧
    w.cell? ⟨b, o + i * 4 + 2, none⟩ = some (.int .i64 (X t i 2)) ∧ w.cell? ⟨b, o + i * 4 + 3, none⟩ = some (.int .i64 (X t i 3))
  len : ∀ t, t < n → L t ≤ 9223372036854775807
  num : n ≤ 9223372036854775807

theorem PIn.below {w w' : World} {ca : Option Addr} {n : Nat} {A : Nat → Option Addr} {L C : Nat → Nat} {X : Nat → Nat → Nat → Int} (h : PIn w ca n A L C X) (hb : Below w.heap.size w w') : PIn w' ca n A L C X where
  code t ht := by
    obtain ⟨b, o, hc, h1⟩ := h.code t ht
    exact ⟨b, o, hc, (hb.cell (lt_of_cell h1)).trans h1⟩
  ord t i ht hi := by
    obtain ⟨b, o, hc, h0, h1, h2, h3⟩ := h.ord t i ht hi
    exact ⟨b, o, hc, (hb.cell (lt_of_cell h0)).trans h0, (hb.cell (lt_of_cell h1)).trans h1, (hb.cell (lt_of_cell h2)).trans h2, (hb.cell (lt_of_cell h3)).trans h3⟩
  len := h.len
  num := h.num

/-- A program in a box at block B, and behind it a box of three numbers, all 0, that may be written. -/
structure Boxes (w : World) (B : Nat) (ca : Option Addr) (n cc : Nat) (wa : Option Addr) (m wc : Nat) (lk rg : Int) : Prop where
  size : B + 2 ≤ w.heap.size
  p0 : w.cell? ⟨B, 0, none⟩ = some (.slice ca n cc)
  p1 : w.cell? ⟨B, 1, none⟩ = some (.slice wa m wc)
  p2 : w.cell? ⟨B, 2, none⟩ = some (.int .i64 lk)
  p3 : w.cell? ⟨B, 3, none⟩ = some (.int .i64 rg)
  r0 : w.cell? ⟨B + 1, 0, none⟩ = some (.int .i64 0)
  r1 : w.cell? ⟨B + 1, 1, none⟩ = some (.int .i64 0)
  r2 : w.cell? ⟨B + 1, 2, none⟩ = some (.int .i64 0)
  f0 : w.frozen? ⟨B + 1, 0, none⟩ = false
  f1 : w.frozen? ⟨B + 1, 1, none⟩ = false
  f2 : w.frozen? ⟨B + 1, 2, none⟩ = false

theorem Boxes.below {w w' : World} {B : Nat} {ca : Option Addr} {n cc : Nat} {wa : Option Addr} {m wc : Nat} {lk rg : Int} (h : Boxes w B ca n cc wa m wc lk rg) (hb : Below w.heap.size w w') : Boxes w' B ca n cc wa m wc lk rg :=
  ⟨Nat.le_trans h.size hb.size, (hb.cell (lt_of_cell h.p0)).trans h.p0, (hb.cell (lt_of_cell h.p1)).trans h.p1, (hb.cell (lt_of_cell h.p2)).trans h.p2, (hb.cell (lt_of_cell h.p3)).trans h.p3,
    (hb.cell (lt_of_cell h.r0)).trans h.r0, (hb.cell (lt_of_cell h.r1)).trans h.r1, (hb.cell (lt_of_cell h.r2)).trans h.r2,
    (hb.frozen (lt_of_cell h.r0)).trans h.f0, (hb.frozen (lt_of_cell h.r1)).trans h.f1, (hb.frozen (lt_of_cell h.r2)).trans h.f2⟩

theorem boxes_made (w : World) (ca : Option Addr) (n cc : Nat) (wa : Option Addr) (m wc : Nat) (lk rg : Int) (t u : TypeId) :
    Boxes ((w.alloc (.cells #[.slice ca n cc, .slice wa m wc, .int .i64 lk, .int .i64 rg] t)).alloc (.cells #[.int .i64 0, .int .i64 0, .int .i64 0] u)) w.heap.size ca n cc wa m wc lk rg := by
  constructor <;> go_simp
end

section
open Go.RowKit

/-- What waits: a store into a word, or that a lock becomes free. -/
structure Wt where
  lk : Bool
  wh : Int
  what : Int
deriving DecidableEq, Inhabited
/-- A thread of a run. -/
structure Th where
  pc : Nat
  regs : List Int
  wait : List Wt
deriving DecidableEq, Inhabited
/-- The state of a run. -/
structure Sx where
  ths : List Th
  words : List Int
  own : List Int
  prints : List Int
  fell : Bool
deriving DecidableEq, Inhabited

section
variable (L : Nat → Nat) (X : Nat → Nat → Nat → Int)

def thOf (s : Sx) (t : Nat) : Th := s.ths.getD t default
def endedT (s : Sx) (t : Nat) : Bool := decide (L t ≤ (thOf s t).pc)
def opT (s : Sx) (t q : Nat) : Int := X t (thOf s t).pc q
/-- Is a thread able to do its next order? -/
def ableT (s : Sx) (t : Nat) : Bool :=
  if endedT L s t then false
  else
    let k := (thOf s t).wait.length
    let op := opT X s t 0
    if op = 9 ∨ op = 11 ∨ op = 18 then decide (k < 3)
    else if op = 12 ∨ op = 13 then decide (k = 0)
    else if op = 17 then decide (k = 0) && decide (s.own.getD (opT X s t 1).toNat 0 = -1)
    else true
/-- May the k-th one that waits be done? -/
def mayW (mode : Int) (l : List Wt) (k : Nat) : Bool :=
  if k = 0 then true
  else if mode = 1 ∨ (l.getD k default).lk = true then false
  else (l.take k).all fun x => !(x.lk || decide (x.wh = (l.getD k default).wh))
/-- What can be picked. -/
def movesT (mode : Int) (s : Sx) (t : Nat) : List Int :=
  (if ableT L X s t then [8 * (t : Int)] else []) ++ ((List.range (thOf s t).wait.length).filter (fun k => mayW mode (thOf s t).wait k)).map fun (k : Nat) => 8 * (t : Int) + (k : Int) + 1
def movesX (mode : Int) (s : Sx) : List Int := (List.range s.ths.length).flatMap fun t => movesT L X mode s t
def endedX (s : Sx) : Bool := (List.range s.ths.length).all fun t => endedT L s t && (thOf s t).wait.isEmpty
def setTh (s : Sx) (t : Nat) (x : Th) : Sx := { s with ths := s.ths.set t x }
/-- One that waited is done. -/
def doneW (s : Sx) (x : Wt) : Sx := if x.lk then { s with own := s.own.set x.wh.toNat (-1) } else { s with words := s.words.set x.wh.toNat x.what }
def storeW (mode : Int) (s : Sx) (t : Nat) (x : Wt) : Sx :=
  if 0 < mode then setTh s t { thOf s t with wait := (thOf s t).wait ++ [x] } else doneW s x
/-- What a thread finds in a word. -/
def findsW (s : Sx) (t : Nat) (wd : Int) : Int :=
  match (thOf s t).wait.reverse.find? fun x => !x.lk && decide (x.wh = wd) with
  | some x => x.what
  | none => s.words.getD wd.toNat 0
def setR (s : Sx) (t : Nat) (r v : Int) : Sx := setTh s t { thOf s t with regs := (thOf s t).regs.set r.toNat v }
def getR (s : Sx) (t : Nat) (r : Int) : Int := (thOf s t).regs.getD r.toNat 0
def bitI (b : Bool) : Int := if b then 1 else 0
def fallX (s : Sx) : Sx := { s with fell := true }
/-- A thread's order op, with its numbers a, b, c; the thread stands behind it already. -/
def orderX (mode : Int) (s : Sx) (t : Nat) (op a b c : Int) : Sx :=
  if op = 1 then setR s t a b
  else if op = 2 then setR s t a (getR s t b)
  else if op = 3 then setR s t a (IntKind.i64.wrap (getR s t b + getR s t c))
  else if op = 4 then setR s t a (IntKind.i64.wrap (getR s t b - getR s t c))
  else if op = 5 then setR s t a (IntKind.i64.wrap (getR s t b * getR s t c))
  else if op = 6 then setR s t a (bitI (decide (getR s t b < getR s t c)))
  else if op = 7 then setR s t a (bitI (decide (getR s t b = getR s t c)))
  else if op = 8 then setR s t a (findsW s t b)
  else if op = 9 then storeW mode s t ⟨false, a, getR s t b⟩
  else if op = 10 then (if getR s t b < 0 ∨ (s.words.length : Int) ≤ getR s t b then fallX s else setR s t a (findsW s t (getR s t b)))
  else if op = 11 then (if getR s t a < 0 ∨ (s.words.length : Int) ≤ getR s t a then fallX s else storeW mode s t ⟨false, getR s t a, getR s t b⟩)
  else if op = 13 then (if s.words.getD a.toNat 0 = getR s t b then setR { s with words := s.words.set a.toNat (getR s t c) } t b 1 else setR s t b 0)
  else if op = 14 then setTh s t { thOf s t with pc := a.toNat }
  else if op = 15 then (if getR s t a = 0 then setTh s t { thOf s t with pc := b.toNat } else s)
  else if op = 16 then { s with prints := s.prints ++ [(t : Int), getR s t a] }
  else if op = 17 then { s with own := s.own.set a.toNat t }
  else if op = 18 then (if s.own.getD a.toNat 0 ≠ t ∨ ((thOf s t).wait.any fun x => x.lk && decide (x.wh = a)) = true then fallX s else storeW mode s t ⟨true, a, 0⟩)
  else s
/-- A move: eight times a thread's number: its order; k more: the k-th one that waits. -/
def doX (mode : Int) (s : Sx) (mv : Nat) : Sx :=
  let t := mv / 8
  let k := mv % 8
  if 0 < k then
    let s' := doneW s ((thOf s t).wait.getD (k - 1) default)
    setTh s' t { thOf s' t with wait := (thOf s' t).wait.eraseIdx (k - 1) }
  else
    let pc := (thOf s t).pc
    orderX mode (setTh s t { thOf s t with pc := pc + 1 }) t (X t pc 0) (X t pc 1) (X t pc 2) (X t pc 3)
end
/-- The state ahead of the first step. -/
def beginX (n : Nat) (words : List Int) (lk rg : Int) : Sx :=
  { ths := List.replicate n { pc := 0, regs := List.replicate rg.toNat 0, wait := [] }, words := words, own := List.replicate lk.toNat (-1), prints := [], fell := false }

theorem truth_any (b : Bool) (w : World) : Calls Tryz.prog 122 #[.bool b] w fun e w' => e = .returned (.int .i64 (bitI b)) ∧ w' = w := by
  go_enter Tryz.func122, Tryz.ntmps122
  cases b <;> go_wp2 <;> go_ret <;> exact ⟨rfl, rfl⟩
end

section
open Go.RowKit

/-- What lies in memory lies there when more is made. -/
theorem cell_up {w : World} {a : Addr} {v : Value} (h : w.cell? a = some v) (o : Obj) : (w.alloc o).cell? a = some v := (World.cell?_alloc_lt _ _ _ (lt_of_cell h)).trans h
end

section
open Go.RowKit

/-- The rows of a state. -/
inductive Rl where
  | box
  | thr
  | words
  | own
  | prints
  | regs (t : Nat)
  | wait (t : Nat)
deriving DecidableEq

/-- A program as a value, and the mode. -/
structure Pg where
  ca : Option Addr
  n : Nat
  cc : Nat
  wa : Option Addr
  m : Nat
  wc : Nat
  lk : Int
  rg : Int
  mode : Int
def intsV (l : List Int) : List Value := l.map (Value.int .i64)
def waitC (x : Wt) (j : Nat) : Value := if j = 0 then .bool x.lk else if j = 1 then .int .i64 x.wh else .int .i64 x.what
def waitV (l : List Wt) : List Value := rows3 l.length fun i j => waitC (l.getD i default) j
theorem intsV_at {l : List Int} {i : Nat} (h : i < l.length) : (intsV l)[i]? = some (.int .i64 (l.getD i 0)) := by
  unfold intsV
  rw [List.getElem?_map, List.getElem?_eq_getElem h]
  simp [List.getD, List.getElem?_eq_getElem h]
theorem intsV_set (l : List Int) (i : Nat) (x : Int) : intsV (l.set i x) = (intsV l).set i (.int .i64 x) := by simp [intsV, List.map_set]
theorem intsV_len (l : List Int) : (intsV l).length = l.length := by simp [intsV]
theorem thOf_set {s : Sx} {t : Nat} (ht : t < s.ths.length) (x : Th) (u : Nat) : thOf (setTh s t x) u = if u = t then x else thOf s u := by
  unfold thOf setTh
  simp only [List.getD, List.getElem?_set]
  by_cases h : u = t
  · subst h; simp [ht]
  · rw [if_neg (fun e => h e.symm), if_neg h]

section
variable {w w1 : World} {B : Nat} {P : Pg} {sb : Nat} {v : Rl → Value} {s : Sx}

theorem ths_set (s : Sx) (t : Nat) (x : Th) : (setTh s t x).ths.length = s.ths.length := by simp [setTh]
theorem waitV_snoc (l : List Wt) (x : Wt) : Go.Proofs.YtipdnfpomdcenacGreatDoor.waitV (l ++ [x]) = Go.Proofs.YtipdnfpomdcenacGreatDoor.waitV l ++ [.bool x.lk, .int .i64 x.wh, .int .i64 x.what] := by
  unfold Go.Proofs.YtipdnfpomdcenacGreatDoor.waitV
  rw [List.length_append, List.length_singleton, rows3_snoc]
  congr 1
  · refine rows3_congr fun t j ht => ?_
    congr 1
    simp [List.getD, List.getElem?_append_left ht]
  · simp [waitC, List.getD]
end
end

section
open Go.RowKit

/-- What waits, as it is read. -/
def WIn (w : World) (a : Option Addr) (l : List Wt) : Prop := ∀ i, i < l.length → ∃ b o, a = some ⟨b, o, none⟩ ∧ w.cell? ⟨b, o + i * 3, none⟩ = some (.bool (l.getD i default).lk) ∧ w.cell? ⟨b, o + i * 3 + 1, none⟩ = some (.int .i64 (l.getD i default).wh) ∧ w.cell? ⟨b, o + i * 3 + 2, none⟩ = some (.int .i64 (l.getD i default).what)
theorem WIn.below {w w' : World} {a : Option Addr} {l : List Wt} (h : WIn w a l) (hb : Below w.heap.size w w') : WIn w' a l := fun i hi => by
  obtain ⟨b, o, e, h0, h1, h2⟩ := h i hi
  exact ⟨b, o, e, (hb.cell (lt_of_cell h0)).trans h0, (hb.cell (lt_of_cell h1)).trans h1, (hb.cell (lt_of_cell h2)).trans h2⟩
end

section
open Go.RowKit

theorem back_none {l : List Wt} {f : Wt → Bool} (h : ∀ p, p < l.length → f (l.getD p default) = false) : l.reverse.find? f = none := by
  rw [List.find?_eq_none]
  intro x hx
  rw [List.mem_reverse] at hx
  obtain ⟨p, hp, rfl⟩ := List.mem_iff_getElem.mp hx
  have e : l.getD p default = l[p] := by simp [List.getD, List.getElem?_eq_getElem hp]
  rw [← e, h p hp]
  simp
theorem back_some {l : List Wt} {f : Wt → Bool} {i : Nat} (hi : i < l.length) (hm : f (l.getD i default) = true) (h : ∀ p, i < p → p < l.length → f (l.getD p default) = false) : l.reverse.find? f = some (l.getD i default) := by
  have e : l = l.take i ++ (l.getD i default :: l.drop (i + 1)) := by
    have e0 : l.getD i default = l[i] := by simp [List.getD, List.getElem?_eq_getElem hi]
    rw [e0, ← List.drop_eq_getElem_cons hi, List.take_append_drop]
  have hd : (l.drop (i + 1)).reverse.find? f = none := by
    refine back_none fun p hp => ?_
    rw [List.length_drop] at hp
    have e1 : (l.drop (i + 1)).getD p default = l.getD (i + 1 + p) default := by simp [List.getD, List.getElem?_drop]
    rw [e1]
    exact h _ (by omega) (by omega)
  conv => lhs; rw [e]
  rw [List.reverse_append, List.reverse_cons, List.append_assoc, List.find?_append, hd]
  simp only [List.singleton_append, List.find?_cons, hm, Option.none_or]
end

end Go.Proofs.YtipdnfpomdcenacGreatDoor
