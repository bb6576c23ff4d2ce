/-
  What the program's check of one order does.
  A program's orders as they lie in memory, and that they stay there while new memory is made.
  A program that is handed in, read: its orders lie in memory, its numbers fit.
  How vast a program is.
-/
import Derived.Test.YtocfocjnnjdcgaaDoorTable
import Derived.Deep.RegionHeld3
import Derived.ProofKit
import Derived.Lib.SmallJoins
import Derived.Deep.Slices
namespace Go.Proofs.YtocfocjnnjdcgaaDoor
section
open Go.RowKit

theorem zeroShape (w : World) : (zeroValue 148).run Tryd.prog w = .ok (.agg #[.string ⟨#[]⟩, .int .i64 0, .int .i64 0, .int .i64 0]) w := by kernel_rfl

theorem heap_two (w : World) (a b : Obj) (mb : Nat) (o : Obj) (h : w.heap[mb]? = some o) : ((w.alloc a).alloc b).heap[mb]? = some o := by
  have hl : mb < w.heap.size := by
    rcases Nat.lt_or_ge mb w.heap.size with h1 | h1
    · exact h1
    · rw [Array.getElem?_eq_none h1] at h; cases h
  rw [Below.heap_alloc _ _ _ (by simp; omega), Below.heap_alloc _ _ _ hl]; exact h

set_option maxHeartbeats 400000 in
theorem checkOrder_no (mb : Nat) (rg wd lk sz op a b c : Int) (ho : op < 1 ∨ 18 < op) (w : World) (hm : w.heap[mb]? = some (.map shapesArr 18)) :
    Calls Tryd.prog 68 #[ints4 op a b c, .map (some mb), ints6 1 rg wd lk (sz + 1) 0] w fun e w' => e = .returned (.int .i64 2) ∧ Below w.heap.size w w' := by
  have hl := run_look_no Tryd.underlying114 Tryd.underlying3 _ mb 18 shapesArr op _ (heap_two w (.cells #[.int .i64 op, .int .i64 a, .int .i64 b, .int .i64 c] 55) (.cells #[.int .i64 1, .int .i64 rg, .int .i64 wd, .int .i64 lk, .int .i64 (sz + 1), .int .i64 0] 117) mb _ hm) (zeroShape _) (find_out ho)
  clear hm
  go_enter Tryd.func68, Tryd.ntmps68
  go_wp2
  go_ret
  exact ⟨rfl, (((Below.refl _ _).alloc (Nat.le_refl _) _).alloc (by simp) _).alloc (by simp; omega) _⟩

set_option maxHeartbeats 1000000 in
theorem checkOrder_yes (mb : Nat) (rg wd lk sz op a b c x y z : Int) (j : Nat) (hk : kd op = some (x, y, z)) (hf : Instr.findNow (.int .i64) (.int .i64 op) shapesArr.toList 0 = some (some (j, .agg #[.string (nm op), .int .i64 x, .int .i64 y, .int .i64 z]))) (r : Int) (HR : Hid (r = if okN rg wd lk sz x a && okN rg wd lk sz y b && okN rg wd lk sz z c then 0 else 3)) (w : World) (hm : w.heap[mb]? = some (.map shapesArr 18)) :
    Calls Tryd.prog 68 #[ints4 op a b c, .map (some mb), ints6 1 rg wd lk (sz + 1) 0] w fun e w' => e = .returned (.int .i64 r) ∧ Below w.heap.size w w' := by
  have hl := run_look Tryd.underlying114 Tryd.underlying3 _ mb 18 shapesArr op j _ (heap_two w (.cells #[.int .i64 op, .int .i64 a, .int .i64 b, .int .i64 c] 55) (.cells #[.int .i64 1, .int .i64 rg, .int .i64 wd, .int .i64 lk, .int .i64 (sz + 1), .int .i64 0] 117) mb _ hm) hf
  obtain ⟨hx, hy, hz⟩ := kd_range hk
  clear hm hf hk
  have i0 : ∀ w, (Instr.index 143 (.agg #[.int .i64 a, .int .i64 b, .int .i64 c]) (.int .i64 0)).run Tryd.prog w = .ok (.int .i64 a) w := fun _ => by kernel_rfl
  have i1 : ∀ w, (Instr.index 143 (.agg #[.int .i64 a, .int .i64 b, .int .i64 c]) (.int .i64 1)).run Tryd.prog w = .ok (.int .i64 b) w := fun _ => by kernel_rfl
  have i2 : ∀ w, (Instr.index 143 (.agg #[.int .i64 a, .int .i64 b, .int .i64 c]) (.int .i64 2)).run Tryd.prog w = .ok (.int .i64 c) w := fun _ => by kernel_rfl
  go_enter Tryd.func68, Tryd.ntmps68
  go_wp2_with (first | (go_at_call 85; refine (numbersOf_any _ _ _ _ _).mono ?_; rintro e w1 ⟨rfl, hb1⟩))
  have hz1 : w.heap.size + 3 ≤ w1.heap.size := by have := hb1.size; simp at this; omega
  have l0 : w1.cell? ⟨w.heap.size + 1, 0, none⟩ = some (.int .i64 1) := (hb1.cell (p := ⟨w.heap.size + 1, 0, none⟩) (by simp)).trans (by go_simp)
  have l1 : w1.cell? ⟨w.heap.size + 1, 1, none⟩ = some (.int .i64 rg) := (hb1.cell (p := ⟨w.heap.size + 1, 1, none⟩) (by simp)).trans (by go_simp)
  have l2 : w1.cell? ⟨w.heap.size + 1, 2, none⟩ = some (.int .i64 wd) := (hb1.cell (p := ⟨w.heap.size + 1, 2, none⟩) (by simp)).trans (by go_simp)
  have l3 : w1.cell? ⟨w.heap.size + 1, 3, none⟩ = some (.int .i64 lk) := (hb1.cell (p := ⟨w.heap.size + 1, 3, none⟩) (by simp)).trans (by go_simp)
  have l4 : w1.cell? ⟨w.heap.size + 1, 4, none⟩ = some (.int .i64 (sz + 1)) := (hb1.cell (p := ⟨w.heap.size + 1, 4, none⟩) (by simp)).trans (by go_simp)
  have l5 : w1.cell? ⟨w.heap.size + 1, 5, none⟩ = some (.int .i64 0) := (hb1.cell (p := ⟨w.heap.size + 1, 5, none⟩) (by simp)).trans (by go_simp)
  have s1 : w1.cell? ⟨w.heap.size + 1 + 1, 1, none⟩ = some (.int .i64 x) := (hb1.cell (p := ⟨w.heap.size + 1 + 1, 1, none⟩) (by simp)).trans (by go_simp)
  have s2 : w1.cell? ⟨w.heap.size + 1 + 1, 2, none⟩ = some (.int .i64 y) := (hb1.cell (p := ⟨w.heap.size + 1 + 1, 2, none⟩) (by simp)).trans (by go_simp)
  have s3 : w1.cell? ⟨w.heap.size + 1 + 1, 3, none⟩ = some (.int .i64 z) := (hb1.cell (p := ⟨w.heap.size + 1 + 1, 3, none⟩) (by simp)).trans (by go_simp)
  have HB : Below w.heap.size w w1 := (((((Below.refl _ _).alloc (Nat.le_refl _) _).alloc (by simp) _).alloc (by simp; omega) _).trans (hb1.mono (by simp; omega)))
  clear hb1 hl
  go_loopw [22] (fun i wr => ∃ k : Int, (0 ≤ k ∧ k ≤ 3) ∧ i = .int .i64 k ∧ Below w1.heap.size w1 wr ∧ (0 < k → okN rg wd lk sz x a = true) ∧ (1 < k → okN rg wd lk sz y b = true) ∧ (2 < k → okN rg wd lk sz z c = true)) (fun i _ => 3 - (intOf i).toNat)
  case atStart => exact ⟨0, by omega, rfl, Below.refl _ _, by omega, by omega, by omega⟩
  case round =>
    obtain ⟨k, hk, rfl, hbr, ha, hb', hc'⟩ := hrel
    have hc := (fun b o (h : b < w1.heap.size) => hbr.cell (p := ⟨b, o, none⟩) h)
    rw [← hc _ _ (by omega)] at l0 l1 l2 l3 l4 l5 s1 s2 s3
    clear hc
    have hz3 : w.heap.size + 1 < wr.heap.size := by have := hbr.size; omega
    have hz4 : w.heap.size + 1 + 1 < wr.heap.size := by have := hbr.size; omega
    rcases (by omega : k = 0 ∨ k = 1 ∨ k = 2 ∨ k = 3) with rfl | rfl | rfl | rfl
    · by_cases hok : okN rg wd lk sz x a = true
      · go_wp2
        go_region_held3 (fun w' => w'.cell? ⟨w.heap.size + 1, 0, none⟩ = some (.int .i64 1) ∧ w'.cell? ⟨w.heap.size + 1, 1, none⟩ = some (.int .i64 rg) ∧ w'.cell? ⟨w.heap.size + 1, 2, none⟩ = some (.int .i64 wd) ∧ w'.cell? ⟨w.heap.size + 1, 3, none⟩ = some (.int .i64 lk) ∧ w'.cell? ⟨w.heap.size + 1, 4, none⟩ = some (.int .i64 (sz + 1)) ∧ w'.cell? ⟨w.heap.size + 1, 5, none⟩ = some (.int .i64 0) ∧ w'.cell? ⟨w.heap.size + 1 + 1, 1, none⟩ = some (.int .i64 x)) (go_keep)
          (first | (go_at_call 87; refine (allow_any rg wd lk sz x a hx _).mono ?_; rintro e w2 ⟨rfl, hb2⟩; have hc2 := fun b o (h : b < wr.heap.size) => hb2.cell (p := ⟨b, o, none⟩) h))
        go_wp2
        go_roundw
        case rel => exact ⟨1, by omega, by go_num, hbr.drew.trans (hb2.mono hbr.size), fun _ => hok, fun h => absurd h (by omega), fun h => absurd h (by omega)⟩
        case measure => simp [intOf]
      · have hno : okN rg wd lk sz x a = false := by simpa using hok
        clear hok
        go_wp2
        go_region_held3 (fun w' => w'.cell? ⟨w.heap.size + 1, 0, none⟩ = some (.int .i64 1) ∧ w'.cell? ⟨w.heap.size + 1, 1, none⟩ = some (.int .i64 rg) ∧ w'.cell? ⟨w.heap.size + 1, 2, none⟩ = some (.int .i64 wd) ∧ w'.cell? ⟨w.heap.size + 1, 3, none⟩ = some (.int .i64 lk) ∧ w'.cell? ⟨w.heap.size + 1, 4, none⟩ = some (.int .i64 (sz + 1)) ∧ w'.cell? ⟨w.heap.size + 1, 5, none⟩ = some (.int .i64 0) ∧ w'.cell? ⟨w.heap.size + 1 + 1, 1, none⟩ = some (.int .i64 x)) (go_keep)
          (first | (go_at_call 87; refine (allow_any rg wd lk sz x a hx _).mono ?_; rintro e w2 ⟨rfl, hb2⟩; have hc2 := fun b o (h : b < wr.heap.size) => hb2.cell (p := ⟨b, o, none⟩) h))
        go_wp2
        all_goals go_ret
        all_goals exact ⟨ret_int (by rw [HR.out]; simp [hno]), HB.trans ((hbr.mono HB.size).drew.trans (hb2.mono (Nat.le_trans HB.size hbr.size)))⟩
    · by_cases hok : okN rg wd lk sz y b = true
      · go_wp2
        go_region_held3 (fun w' => w'.cell? ⟨w.heap.size + 1, 0, none⟩ = some (.int .i64 1) ∧ w'.cell? ⟨w.heap.size + 1, 1, none⟩ = some (.int .i64 rg) ∧ w'.cell? ⟨w.heap.size + 1, 2, none⟩ = some (.int .i64 wd) ∧ w'.cell? ⟨w.heap.size + 1, 3, none⟩ = some (.int .i64 lk) ∧ w'.cell? ⟨w.heap.size + 1, 4, none⟩ = some (.int .i64 (sz + 1)) ∧ w'.cell? ⟨w.heap.size + 1, 5, none⟩ = some (.int .i64 0) ∧ w'.cell? ⟨w.heap.size + 1 + 1, 2, none⟩ = some (.int .i64 y)) (go_keep)
          (first | (go_at_call 87; refine (allow_any rg wd lk sz y b hy _).mono ?_; rintro e w2 ⟨rfl, hb2⟩; have hc2 := fun b o (h : b < wr.heap.size) => hb2.cell (p := ⟨b, o, none⟩) h))
        go_wp2
        go_roundw
        case rel => exact ⟨2, by omega, by go_num, hbr.drew.trans (hb2.mono hbr.size), fun _ => ha (by omega), fun _ => hok, fun h => absurd h (by omega)⟩
        case measure => simp [intOf]
      · have hno : okN rg wd lk sz y b = false := by simpa using hok
        clear hok
        go_wp2
        go_region_held3 (fun w' => w'.cell? ⟨w.heap.size + 1, 0, none⟩ = some (.int .i64 1) ∧ w'.cell? ⟨w.heap.size + 1, 1, none⟩ = some (.int .i64 rg) ∧ w'.cell? ⟨w.heap.size + 1, 2, none⟩ = some (.int .i64 wd) ∧ w'.cell? ⟨w.heap.size + 1, 3, none⟩ = some (.int .i64 lk) ∧ w'.cell? ⟨w.heap.size + 1, 4, none⟩ = some (.int .i64 (sz + 1)) ∧ w'.cell? ⟨w.heap.size + 1, 5, none⟩ = some (.int .i64 0) ∧ w'.cell? ⟨w.heap.size + 1 + 1, 2, none⟩ = some (.int .i64 y)) (go_keep)
          (first | (go_at_call 87; refine (allow_any rg wd lk sz y b hy _).mono ?_; rintro e w2 ⟨rfl, hb2⟩; have hc2 := fun b o (h : b < wr.heap.size) => hb2.cell (p := ⟨b, o, none⟩) h))
        go_wp2
        all_goals go_ret
        all_goals exact ⟨ret_int (by rw [HR.out]; simp [hno]), HB.trans ((hbr.mono HB.size).drew.trans (hb2.mono (Nat.le_trans HB.size hbr.size)))⟩
    · by_cases hok : okN rg wd lk sz z c = true
      · go_wp2
        go_region_held3 (fun w' => w'.cell? ⟨w.heap.size + 1, 0, none⟩ = some (.int .i64 1) ∧ w'.cell? ⟨w.heap.size + 1, 1, none⟩ = some (.int .i64 rg) ∧ w'.cell? ⟨w.heap.size + 1, 2, none⟩ = some (.int .i64 wd) ∧ w'.cell? ⟨w.heap.size + 1, 3, none⟩ = some (.int .i64 lk) ∧ w'.cell? ⟨w.heap.size + 1, 4, none⟩ = some (.int .i64 (sz + 1)) ∧ w'.cell? ⟨w.heap.size + 1, 5, none⟩ = some (.int .i64 0) ∧ w'.cell? ⟨w.heap.size + 1 + 1, 3, none⟩ = some (.int .i64 z)) (go_keep)
          (first | (go_at_call 87; refine (allow_any rg wd lk sz z c hz _).mono ?_; rintro e w2 ⟨rfl, hb2⟩; have hc2 := fun b o (h : b < wr.heap.size) => hb2.cell (p := ⟨b, o, none⟩) h))
        go_wp2
        go_roundw
        case rel => exact ⟨3, by omega, by go_num, hbr.drew.trans (hb2.mono hbr.size), fun _ => ha (by omega), fun _ => hb' (by omega), fun _ => hok⟩
        case measure => simp [intOf]
      · have hno : okN rg wd lk sz z c = false := by simpa using hok
        clear hok
        go_wp2
        go_region_held3 (fun w' => w'.cell? ⟨w.heap.size + 1, 0, none⟩ = some (.int .i64 1) ∧ w'.cell? ⟨w.heap.size + 1, 1, none⟩ = some (.int .i64 rg) ∧ w'.cell? ⟨w.heap.size + 1, 2, none⟩ = some (.int .i64 wd) ∧ w'.cell? ⟨w.heap.size + 1, 3, none⟩ = some (.int .i64 lk) ∧ w'.cell? ⟨w.heap.size + 1, 4, none⟩ = some (.int .i64 (sz + 1)) ∧ w'.cell? ⟨w.heap.size + 1, 5, none⟩ = some (.int .i64 0) ∧ w'.cell? ⟨w.heap.size + 1 + 1, 3, none⟩ = some (.int .i64 z)) (go_keep)
          (first | (go_at_call 87; refine (allow_any rg wd lk sz z c hz _).mono ?_; rintro e w2 ⟨rfl, hb2⟩; have hc2 := fun b o (h : b < wr.heap.size) => hb2.cell (p := ⟨b, o, none⟩) h))
        go_wp2
        all_goals go_ret
        all_goals exact ⟨ret_int (by rw [HR.out]; simp [hno]), HB.trans ((hbr.mono HB.size).drew.trans (hb2.mono (Nat.le_trans HB.size hbr.size)))⟩
    · have h1 := ha (by omega)
      have h2 := hb' (by omega)
      have h3 := hc' (by omega)
      clear ha hb' hc'
      go_wp2
      go_ret
      exact ⟨ret_int (by rw [HR.out]; simp [h1, h2, h3]), HB.trans (hbr.mono HB.size)⟩

theorem checkOrder_any (mb : Nat) (rg wd lk sz op a b c : Int) (w : World) (hm : w.heap[mb]? = some (.map shapesArr 18)) :
    Calls Tryd.prog 68 #[ints4 op a b c, .map (some mb), ints6 1 rg wd lk (sz + 1) 0] w fun e w' => e = .returned (.int .i64 (ordE rg wd lk sz op a b c)) ∧ Below w.heap.size w w' := by
  by_cases h : op < 1 ∨ 18 < op
  · have := checkOrder_no mb rg wd lk sz op a b c h w hm
    simpa only [ordE, kd_out h] using this
  · obtain ⟨j, x, y, z, hk, hf⟩ := find_in (op := op) (by omega)
    have := checkOrder_yes mb rg wd lk sz op a b c x y z j hk hf _ rfl w hm
    simpa only [ordE, hk] using this
end

section
open Go.RowKit

/-- The threads' orders lie in w: thread t's slice is '.slice (A t) (L t) (C t)', its order i has the numbers 'X t i 0' to 'X t i 3'. -/
structure PIn (w : World) (ca : Option Addr) (n : Nat) (A : Nat → Option Addr) (L C : Nat → Nat) (X : Nat → Nat → Nat → Int) : Prop where
  code : ∀ t, t < n → ∃ b o, ca = some ⟨b, o, none⟩ ∧ w.cell? ⟨b, o + t, none⟩ = some (.slice (A t) (L t) (C t))
  ord : ∀ t i, t < n → i < L t → ∃ b o, A t = some ⟨b, o, none⟩ ∧ w.cell? ⟨b, o + i * 4, none⟩ = some (.int .i64 (X t i 0)) ∧ w.cell? ⟨b, o + i * 4 + 1, none⟩ = some (.int .i64 (X t i 1)) ∧
    w.cell? ⟨b, o + i * 4 + 2, none⟩ = some (.int .i64 (X t i 2)) ∧ w.cell? ⟨b, o + i * 4 + 3, none⟩ = some (.int .i64 (X t i 3))
  len : ∀ t, t < n → L t ≤ 9223372036854775807
  num : n ≤ 9223372036854775807

theorem PIn.below {w w' : World} {ca : Option Addr} {n : Nat} {A : Nat → Option Addr} {L C : Nat → Nat} {X : Nat → Nat → Nat → Int} (h : PIn w ca n A L C X) (hb : Below w.heap.size w w') : PIn w' ca n A L C X where
  code t ht := by
    obtain ⟨b, o, hc, h1⟩ := h.code t ht
    exact ⟨b, o, hc, (hb.cell (lt_of_cell h1)).trans h1⟩
  ord t i ht hi := by
    obtain ⟨b, o, hc, h0, h1, h2, h3⟩ := h.ord t i ht hi
    exact ⟨b, o, hc, (hb.cell (lt_of_cell h0)).trans h0, (hb.cell (lt_of_cell h1)).trans h1, (hb.cell (lt_of_cell h2)).trans h2, (hb.cell (lt_of_cell h3)).trans h3⟩
  len := h.len
  num := h.num

/-- A program in a box at block B, and behind it a box of three numbers, all 0, that may be written. -/
structure Boxes (w : World) (B : Nat) (ca : Option Addr) (n cc : Nat) (wa : Option Addr) (m wc : Nat) (lk rg : Int) : Prop where
  size : B + 2 ≤ w.heap.size
  p0 : w.cell? ⟨B, 0, none⟩ = some (.slice ca n cc)
  p1 : w.cell? ⟨B, 1, none⟩ = some (.slice wa m wc)
  p2 : w.cell? ⟨B, 2, none⟩ = some (.int .i64 lk)
  p3 : w.cell? ⟨B, 3, none⟩ = some (.int .i64 rg)
  r0 : w.cell? ⟨B + 1, 0, none⟩ = some (.int .i64 0)
  r1 : w.cell? ⟨B + 1, 1, none⟩ = some (.int .i64 0)
  r2 : w.cell? ⟨B + 1, 2, none⟩ = some (.int .i64 0)
  f0 : w.frozen? ⟨B + 1, 0, none⟩ = false
  f1 : w.frozen? ⟨B + 1, 1, none⟩ = false
  f2 : w.frozen? ⟨B + 1, 2, none⟩ = false

theorem Boxes.below {w w' : World} {B : Nat} {ca : Option Addr} {n cc : Nat} {wa : Option Addr} {m wc : Nat} {lk rg : Int} (h : Boxes w B ca n cc wa m wc lk rg) (hb : Below w.heap.size w w') : Boxes w' B ca n cc wa m wc lk rg :=
  ⟨Nat.le_trans h.size hb.size, (hb.cell (lt_of_cell h.p0)).trans h.p0, (hb.cell (lt_of_cell h.p1)).trans h.p1, (hb.cell (lt_of_cell h.p2)).trans h.p2, (hb.cell (lt_of_cell h.p3)).trans h.p3,
    (hb.cell (lt_of_cell h.r0)).trans h.r0, (hb.cell (lt_of_cell h.r1)).trans h.r1, (hb.cell (lt_of_cell h.r2)).trans h.r2,
    (hb.frozen (lt_of_cell h.r0)).trans h.f0, (hb.frozen (lt_of_cell h.r1)).trans h.f1, (hb.frozen (lt_of_cell h.r2)).trans h.f2⟩

theorem boxes_made (w : World) (ca : Option Addr) (n cc : Nat) (wa : Option Addr) (m wc : Nat) (lk rg : Int) (t u : TypeId) :
    Boxes ((w.alloc (.cells #[.slice ca n cc, .slice wa m wc, .int .i64 lk, .int .i64 rg] t)).alloc (.cells #[.int .i64 0, .int .i64 0, .int .i64 0] u)) w.heap.size ca n cc wa m wc lk rg := by
  constructor <;> go_simp
end

section
open Go.ChangeShapes Go.WideShapes Go.ChangeAt Go.RowKit Go.Joins Go.Deep

theorem cells25 : Tryd.prog.cellsOf 25 = 4 := by kernel_rfl
theorem cells55 : Tryd.prog.cellsOf 55 = 4 := by kernel_rfl
theorem cells36 : Tryd.prog.cellsOf 36 = 1 := by kernel_rfl
theorem cells3 : Tryd.prog.cellsOf 3 = 1 := by kernel_rfl

section
variable {H : Type} {enc : TypeId × Value → H} {w : World}

theorem four {cs : List Value} (h : cs.length = 4) : ∃ a b c d, cs = [a, b, c, d] := by
  match cs, h with
  | [a, b, c, d], _ => exact ⟨a, b, c, d, rfl⟩

theorem read_order {a : Addr} {k fuel : Nat} {cs : List Value} {x : DataW H × List MemPlace} (hc : w.cells? 0 (a.add k) 4 = some cs) (h : DataW.trod enc Tryd.prog w 0 (fun _ => true) true fuel 55 cs = some x) :
    ∃ Y : Nat → Int, (∀ j, j < 4 → w.cell? (a.add (k + j)) = some (.int .i64 (Y j))) ∧ ∀ j, j < 4 → (Lit.int .i64 (Y j)).wf = true := by
  obtain ⟨_, hl, hcell⟩ := World.cells?_some hc
  obtain ⟨y0, y1, y2, y3, n, _, _, h0, h1, h2, h3⟩ := trod_struct4 Tryd.underlying55 h
  obtain ⟨c0, c1, c2, c3, rfl⟩ := four hl
  simp only [cells3] at h0 h1 h2 h3
  obtain ⟨a0, e0, _, w0⟩ := DataW.trod_int Tryd.underlying3 h0
  obtain ⟨a1, e1, _, w1⟩ := DataW.trod_int Tryd.underlying3 h1
  obtain ⟨a2, e2, _, w2⟩ := DataW.trod_int Tryd.underlying3 h2
  obtain ⟨a3, e3, _, w3⟩ := DataW.trod_int Tryd.underlying3 h3
  simp at e0 e1 e2 e3
  subst e0 e1 e2 e3
  refine ⟨fun j => if j = 0 then a0 else if j = 1 then a1 else if j = 2 then a2 else a3, ?_, ?_⟩
  · intro j hj
    rw [← Addr.add_add, hcell j hj]
    rcases (by omega : j = 0 ∨ j = 1 ∨ j = 2 ∨ j = 3) with rfl | rfl | rfl | rfl <;> rfl
  · intro j hj
    rcases (by omega : j = 0 ∨ j = 1 ∨ j = 2 ∨ j = 3) with rfl | rfl | rfl | rfl <;> assumption

theorem read_thread {v : Value} {fuel : Nat} {x : DataW H × List MemPlace} (h : DataW.trod enc Tryd.prog w 0 (fun _ => true) true fuel 36 [v] = some x) :
    ∃ (a : Option Addr) (l c : Nat) (Y : Nat → Nat → Int), v = .slice a l c ∧ l ≤ maxLen ∧ ∀ i, i < l → (∃ b o, a = some ⟨b, o, none⟩ ∧ ∀ j, j < 4 → w.cell? ⟨b, o + (i * 4 + j), none⟩ = some (.int .i64 (Y i j))) ∧ ∀ j, j < 4 → (Lit.int .i64 (Y i j)).wf = true := by
  rcases open_slice Tryd.underlying36 h with ⟨hcs, _⟩ | ⟨a, len, cap, m, n, D, Pl, hcs, _, hl, hm, hmm, _, hx⟩
  · simp at hcs
    exact ⟨none, 0, 0, fun _ _ => 0, hcs, Nat.zero_le _, fun i hi => absurd hi (Nat.not_lt_zero _)⟩
  · simp at hcs hmm
    obtain ⟨Y, hY⟩ := choose_lt (α := Nat → Int) (p := fun i (Y : Nat → Int) => (∀ j, j < 4 → w.cell? (a.add (i * 4 + j)) = some (.int .i64 (Y j))) ∧ ∀ j, j < 4 → (Lit.int .i64 (Y j)).wf = true) (n := len) (fun i hi => by
      obtain ⟨cs', h1, h2⟩ := hx i (by omega)
      rw [cells55] at h1
      exact read_order h1 h2)
    refine ⟨some a, len, cap, Y, hcs, by omega, fun i hi => ⟨?_, (hY i hi).2⟩⟩
    obtain ⟨b, o, sp⟩ := a
    have hsp : sp = none := by simpa [Addr.add] using World.cell?_spot ((hY 0 (by omega)).1 0 (by omega))
    subst hsp
    exact ⟨b, o, rfl, fun j hj => by rw [← Go.WideShapes.add_plain]; exact (hY i hi).1 j hj⟩

theorem read_code {v : Value} {fuel : Nat} {x : DataW H × List MemPlace} (h : DataW.trod enc Tryd.prog w 0 (fun _ => true) true fuel 22 [v] = some x) :
    ∃ (ca : Option Addr) (n cc : Nat) (A : Nat → Option Addr) (L C : Nat → Nat) (X : Nat → Nat → Nat → Int), v = .slice ca n cc ∧ PIn w ca n A L C X ∧ ∀ t i j, t < n → i < L t → j < 4 → (Lit.int .i64 (X t i j)).wf = true := by
  rcases open_slice1 Tryd.underlying22 cells36 h with ⟨hcs, _⟩ | ⟨a, len, cap, m, n, V, D, Pl, hcs, _, hl, hm, hmm, _, hx⟩
  · simp at hcs
    exact ⟨none, 0, 0, fun _ => none, fun _ => 0, fun _ => 0, fun _ _ _ => 0, hcs, ⟨fun t ht => absurd ht (Nat.not_lt_zero _), fun t i ht _ => absurd ht (Nat.not_lt_zero _), fun t ht => absurd ht (Nat.not_lt_zero _), Nat.zero_le _⟩, fun t i j ht => absurd ht (Nat.not_lt_zero _)⟩
  · simp at hcs hmm
    obtain ⟨A, hA⟩ := choose_lt (α := Option Addr × Nat × Nat × (Nat → Nat → Int)) (n := len) (p := fun t q => V t = .slice q.1 q.2.1 q.2.2.1 ∧ q.2.1 ≤ maxLen ∧ ∀ i, i < q.2.1 → (∃ b o, q.1 = some ⟨b, o, none⟩ ∧ ∀ j, j < 4 → w.cell? ⟨b, o + (i * 4 + j), none⟩ = some (.int .i64 (q.2.2.2 i j))) ∧ ∀ j, j < 4 → (Lit.int .i64 (q.2.2.2 i j)).wf = true)
      (fun t ht => let ⟨a', l, c, Y, h1, h2, h3⟩ := read_thread (hx t (by omega)).2; ⟨(a', l, c, Y), h1, h2, h3⟩)
    refine ⟨some a, len, cap, fun t => (A t).1, fun t => (A t).2.1, fun t => (A t).2.2.1, fun t => (A t).2.2.2, hcs, ⟨fun t ht => ?_, fun t i ht hi => ?_, fun t ht => (hA t ht).2.1, by unfold maxLen at hm; omega⟩, fun t i j ht hi hj => ((hA t ht).2.2 i hi).2 j hj⟩
    · obtain ⟨b, o, sp⟩ := a
      have hsp : sp = none := by simpa [Addr.add] using World.cell?_spot (hx 0 (by omega)).1
      subst hsp
      exact ⟨b, o, rfl, by rw [← Go.WideShapes.add_plain, (hx t (by omega)).1, (hA t ht).1]⟩
    · obtain ⟨b, o, h1, h2⟩ := ((hA t ht).2.2 i hi).1
      exact ⟨b, o, h1, by simpa using h2 0 (by omega), by simpa [Nat.add_assoc] using h2 1 (by omega), by simpa [Nat.add_assoc] using h2 2 (by omega), by simpa [Nat.add_assoc] using h2 3 (by omega)⟩
end
end

section
open Go.RowKit

/-- It answers yes or no. -/
def IsBool (e : Ending) : Prop := ∃ b, e = .returned (.bool b)

set_option maxHeartbeats 1000000 in
theorem vast_any (ca : Option Addr) (n cc : Nat) (wa : Option Addr) (m wc : Nat) (lk rg : Int) (A : Nat → Option Addr) (L C : Nat → Nat) (X : Nat → Nat → Nat → Int) (_hm : m ≤ 9223372036854775807) (w : World) (hp : PIn w ca n A L C X) :
    Calls Tryd.prog 7 #[prgV ca n cc wa m wc lk rg] w fun e w' => IsBool e ∧ Below w.heap.size w w' := by
  have hn := hp.num
  have HB : Below w.heap.size w (w.alloc (.cells #[.slice ca n cc, .slice wa m wc, .int .i64 lk, .int .i64 rg] 25)) := (Below.refl _ _).alloc (Nat.le_refl _) _
  have hp2 := hp.below HB
  clear hp
  go_enter Tryd.func7, Tryd.ntmps7
  go_wp2
  go_loop [3, 4] (fun s i => ∃ (q : Int) (k : Nat), k ≤ n ∧ s = .int .i64 q ∧ i = .int .i64 k) (fun _ i => n - (intOf i).toNat)
  case atStart => exact ⟨_, 0, Nat.zero_le _, rfl, rfl⟩
  case round =>
    obtain ⟨q, k, hk, rfl, rfl⟩ := hrel
    by_cases hlt : k < n
    · obtain ⟨cb, co, rfl, hcell⟩ := hp2.code k hlt
      have hl := hp2.len k hlt
      by_cases h100 : (k : Int) < 100
      · go_wp2
        go_round
        case rel => exact ⟨_, k + 1, by omega, rfl, by go_num⟩
        case measure => simp [intOf]; omega
      · go_wp2
        all_goals go_ret
        all_goals exact ⟨⟨_, rfl⟩, HB⟩
    · go_wp2
      all_goals go_ret
      all_goals exact ⟨⟨_, rfl⟩, HB⟩
end

end Go.Proofs.YtocfocjnnjdcgaaDoor
