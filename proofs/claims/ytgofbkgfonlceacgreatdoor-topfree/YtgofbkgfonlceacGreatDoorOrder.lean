/-
  What the program's check of one order does.
  A program's orders as they lie in memory, and that they stay there while new memory is made.
  Rows of numbers; 'append', as it is run on rows that the call made.
  A program that is handed in, read: its orders lie in memory, its numbers fit.
-/
import Derived.Test.YtgofbkgfonlceacGreatDoorTable
import Derived.Deep.RegionHeld3
import Derived.Test.YtgofbkgfonlceacGreatDoorPlain
import Derived.Deep.AppendSrc
import Derived.ProofKit
import Derived.Lib.SmallJoins
import Derived.Deep.Slices
namespace Go.Proofs.YtgofbkgfonlceacGreatDoor
section
open Go.RowKit

theorem zeroShape (w : World) : (zeroValue 148).run Tryz.prog w = .ok (.agg #[.string ⟨#[]⟩, .int .i64 0, .int .i64 0, .int .i64 0]) w := by kernel_rfl

theorem heap_two (w : World) (a b : Obj) (mb : Nat) (o : Obj) (h : w.heap[mb]? = some o) : ((w.alloc a).alloc b).heap[mb]? = some o := by
  have hl : mb < w.heap.size := by
    rcases Nat.lt_or_ge mb w.heap.size with h1 | h1
    · exact h1
    · rw [Array.getElem?_eq_none h1] at h; cases h
  rw [Below.heap_alloc _ _ _ (by simp; omega), Below.heap_alloc _ _ _ hl]; exact h

set_option maxHeartbeats 400000 in
theorem checkOrder_no (mb : Nat) (rg wd lk sz op a b c : Int) (ho : op < 1 ∨ 18 < op) (w : World) (hm : w.heap[mb]? = some (.map shapesArr 18)) :
    Calls Tryz.prog 43 #[ints4 op a b c, .map (some mb), ints6 1 rg wd lk (sz + 1) 0] w fun e w' => e = .returned (.int .i64 2) ∧ Below w.heap.size w w' := by
  have hl := run_look_no Tryz.underlying87 Tryz.underlying3 _ mb 18 shapesArr op _ (heap_two w (.cells #[.int .i64 op, .int .i64 a, .int .i64 b, .int .i64 c] 34) (.cells #[.int .i64 1, .int .i64 rg, .int .i64 wd, .int .i64 lk, .int .i64 (sz + 1), .int .i64 0] 90) mb _ hm) (zeroShape _) (find_out ho)
  clear hm
  go_enter Tryz.func43, Tryz.ntmps43
  go_wp2
  go_ret
  exact ⟨rfl, (((Below.refl _ _).alloc (Nat.le_refl _) _).alloc (by simp) _).alloc (by simp; omega) _⟩

set_option maxHeartbeats 1000000 in
theorem checkOrder_yes (mb : Nat) (rg wd lk sz op a b c x y z : Int) (j : Nat) (hk : kd op = some (x, y, z)) (hf : Instr.findNow (.int .i64) (.int .i64 op) shapesArr.toList 0 = some (some (j, .agg #[.string (nm op), .int .i64 x, .int .i64 y, .int .i64 z]))) (r : Int) (HR : Hid (r = if okN rg wd lk sz x a && okN rg wd lk sz y b && okN rg wd lk sz z c then 0 else 3)) (w : World) (hm : w.heap[mb]? = some (.map shapesArr 18)) :
    Calls Tryz.prog 43 #[ints4 op a b c, .map (some mb), ints6 1 rg wd lk (sz + 1) 0] w fun e w' => e = .returned (.int .i64 r) ∧ Below w.heap.size w w' := by
  have hl := run_look Tryz.underlying87 Tryz.underlying3 _ mb 18 shapesArr op j _ (heap_two w (.cells #[.int .i64 op, .int .i64 a, .int .i64 b, .int .i64 c] 34) (.cells #[.int .i64 1, .int .i64 rg, .int .i64 wd, .int .i64 lk, .int .i64 (sz + 1), .int .i64 0] 90) mb _ hm) hf
  obtain ⟨hx, hy, hz⟩ := kd_range hk
  clear hm hf hk
  have i0 : ∀ w, (Instr.index 151 (.agg #[.int .i64 a, .int .i64 b, .int .i64 c]) (.int .i64 0)).run Tryz.prog w = .ok (.int .i64 a) w := fun _ => by kernel_rfl
  have i1 : ∀ w, (Instr.index 151 (.agg #[.int .i64 a, .int .i64 b, .int .i64 c]) (.int .i64 1)).run Tryz.prog w = .ok (.int .i64 b) w := fun _ => by kernel_rfl
  have i2 : ∀ w, (Instr.index 151 (.agg #[.int .i64 a, .int .i64 b, .int .i64 c]) (.int .i64 2)).run Tryz.prog w = .ok (.int .i64 c) w := fun _ => by kernel_rfl
  go_enter Tryz.func43, Tryz.ntmps43
  go_wp2_with (first | (go_at_call 75; refine (numbersOf_any _ _ _ _ _).mono ?_; rintro e w1 ⟨rfl, hb1⟩))
  have hz1 : w.heap.size + 3 ≤ w1.heap.size := by have := hb1.size; simp at this; omega
  have l0 : w1.cell? ⟨w.heap.size + 1, 0, none⟩ = some (.int .i64 1) := (hb1.cell (p := ⟨w.heap.size + 1, 0, none⟩) (by simp)).trans (by go_simp)
  have l1 : w1.cell? ⟨w.heap.size + 1, 1, none⟩ = some (.int .i64 rg) := (hb1.cell (p := ⟨w.heap.size + 1, 1, none⟩) (by simp)).trans (by go_simp)
  have l2 : w1.cell? ⟨w.heap.size + 1, 2, none⟩ = some (.int .i64 wd) := (hb1.cell (p := ⟨w.heap.size + 1, 2, none⟩) (by simp)).trans (by go_simp)
  have l3 : w1.cell? ⟨w.heap.size + 1, 3, none⟩ = some (.int .i64 lk) := (hb1.cell (p := ⟨w.heap.size + 1, 3, none⟩) (by simp)).trans (by go_simp)
  have l4 : w1.cell? ⟨w.heap.size + 1, 4, none⟩ = some (.int .i64 (sz + 1)) := (hb1.cell (p := ⟨w.heap.size + 1, 4, none⟩) (by simp)).trans (by go_simp)
  have l5 : w1.cell? ⟨w.heap.size + 1, 5, none⟩ = some (.int .i64 0) := (hb1.cell (p := ⟨w.heap.size + 1, 5, none⟩) (by simp)).trans (by go_simp)
  have s1 : w1.cell? ⟨w.heap.size + 1 + 1, 1, none⟩ = some (.int .i64 x) := (hb1.cell (p := ⟨w.heap.size + 1 + 1, 1, none⟩) (by simp)).trans (by go_simp)
  have s2 : w1.cell? ⟨w.heap.size + 1 + 1, 2, none⟩ = some (.int .i64 y) := (hb1.cell (p := ⟨w.heap.size + 1 + 1, 2, none⟩) (by simp)).trans (by go_simp)
  have s3 : w1.cell? ⟨w.heap.size + 1 + 1, 3, none⟩ = some (.int .i64 z) := (hb1.cell (p := ⟨w.heap.size + 1 + 1, 3, none⟩) (by simp)).trans (by go_simp)
  have HB : Below w.heap.size w w1 := (((((Below.refl _ _).alloc (Nat.le_refl _) _).alloc (by simp) _).alloc (by simp; omega) _).trans (hb1.mono (by simp; omega)))
  clear hb1 hl
  go_loopw [22] (fun i wr => ∃ k : Int, (0 ≤ k ∧ k ≤ 3) ∧ i = .int .i64 k ∧ Below w1.heap.size w1 wr ∧ (0 < k → okN rg wd lk sz x a = true) ∧ (1 < k → okN rg wd lk sz y b = true) ∧ (2 < k → okN rg wd lk sz z c = true)) (fun i _ => 3 - (intOf i).toNat)
  case atStart => exact ⟨0, by omega, rfl, Below.refl _ _, by omega, by omega, by omega⟩
  case round =>
    obtain ⟨k, hk, rfl, hbr, ha, hb', hc'⟩ := hrel
    have hc := (fun b o (h : b < w1.heap.size) => hbr.cell (p := ⟨b, o, none⟩) h)
    rw [← hc _ _ (by omega)] at l0 l1 l2 l3 l4 l5 s1 s2 s3
    clear hc
    have hz3 : w.heap.size + 1 < wr.heap.size := by have := hbr.size; omega
    have hz4 : w.heap.size + 1 + 1 < wr.heap.size := by have := hbr.size; omega
    rcases (by omega : k = 0 ∨ k = 1 ∨ k = 2 ∨ k = 3) with rfl | rfl | rfl | rfl
    · by_cases hok : okN rg wd lk sz x a = true
      · go_wp2
        go_region_held3 (fun w' => w'.cell? ⟨w.heap.size + 1, 0, none⟩ = some (.int .i64 1) ∧ w'.cell? ⟨w.heap.size + 1, 1, none⟩ = some (.int .i64 rg) ∧ w'.cell? ⟨w.heap.size + 1, 2, none⟩ = some (.int .i64 wd) ∧ w'.cell? ⟨w.heap.size + 1, 3, none⟩ = some (.int .i64 lk) ∧ w'.cell? ⟨w.heap.size + 1, 4, none⟩ = some (.int .i64 (sz + 1)) ∧ w'.cell? ⟨w.heap.size + 1, 5, none⟩ = some (.int .i64 0) ∧ w'.cell? ⟨w.heap.size + 1 + 1, 1, none⟩ = some (.int .i64 x)) (go_keep)
          (first | (go_at_call 76; refine (allow_any rg wd lk sz x a hx _).mono ?_; rintro e w2 ⟨rfl, hb2⟩; have hc2 := fun b o (h : b < wr.heap.size) => hb2.cell (p := ⟨b, o, none⟩) h))
        go_wp2
        go_roundw
        case rel => exact ⟨1, by omega, by go_num, hbr.drew.trans (hb2.mono hbr.size), fun _ => hok, fun h => absurd h (by omega), fun h => absurd h (by omega)⟩
        case measure => simp [intOf]
      · have hno : okN rg wd lk sz x a = false := by simpa using hok
        clear hok
        go_wp2
        go_region_held3 (fun w' => w'.cell? ⟨w.heap.size + 1, 0, none⟩ = some (.int .i64 1) ∧ w'.cell? ⟨w.heap.size + 1, 1, none⟩ = some (.int .i64 rg) ∧ w'.cell? ⟨w.heap.size + 1, 2, none⟩ = some (.int .i64 wd) ∧ w'.cell? ⟨w.heap.size + 1, 3, none⟩ = some (.int .i64 lk) ∧ w'.cell? ⟨w.heap.size + 1, 4, none⟩ = some (.int .i64 (sz + 1)) ∧ w'.cell? ⟨w.heap.size + 1, 5, none⟩ = some (.int .i64 0) ∧ w'.cell? ⟨w.heap.size + 1 + 1, 1, none⟩ = some (.int .i64 x)) (go_keep)
          (first | (go_at_call 76; refine (allow_any rg wd lk sz x a hx _).mono ?_; rintro e w2 ⟨rfl, hb2⟩; have hc2 := fun b o (h : b < wr.heap.size) => hb2.cell (p := ⟨b, o, none⟩) h))
        go_wp2
        all_goals go_ret
        all_goals exact ⟨ret_int (by rw [HR.out]; simp [hno]), HB.trans ((hbr.mono HB.size).drew.trans (hb2.mono (Nat.le_trans HB.size hbr.size)))⟩
    · by_cases hok : okN rg wd lk sz y b = true
      · go_wp2
        go_region_held3 (fun w' => w'.cell? ⟨w.heap.size + 1, 0, none⟩ = some (.int .i64 1) ∧ w'.cell? ⟨w.heap.size + 1, 1, none⟩ = some (.int .i64 rg) ∧ w'.cell? ⟨w.heap.size + 1, 2, none⟩ = some (.int .i64 wd) ∧ w'.cell? ⟨w.heap.size + 1, 3, none⟩ = some (.int .i64 lk) ∧ w'.cell? ⟨w.heap.size + 1, 4, none⟩ = some (.int .i64 (sz + 1)) ∧ w'.cell? ⟨w.heap.size + 1, 5, none⟩ = some (.int .i64 0) ∧ w'.cell? ⟨w.heap.size + 1 + 1, 2, none⟩ = some (.int .i64 y)) (go_keep)
          (first | (go_at_call 76; refine (allow_any rg wd lk sz y b hy _).mono ?_; rintro e w2 ⟨rfl, hb2⟩; have hc2 := fun b o (h : b < wr.heap.size) => hb2.cell (p := ⟨b, o, none⟩) h))
        go_wp2
        go_roundw
        case rel => exact ⟨2, by omega, by go_num, hbr.drew.trans (hb2.mono hbr.size), fun _ => ha (by omega), fun _ => hok, fun h => absurd h (by omega)⟩
        case measure => simp [intOf]
      · have hno : okN rg wd lk sz y b = false := by simpa using hok
        clear hok
        go_wp2
        go_region_held3 (fun w' => w'.cell? ⟨w.heap.size + 1, 0, none⟩ = some (.int .i64 1) ∧ w'.cell? ⟨w.heap.size + 1, 1, none⟩ = some (.int .i64 rg) ∧ w'.cell? ⟨w.heap.size + 1, 2, none⟩ = some (.int .i64 wd) ∧ w'.cell? ⟨w.heap.size + 1, 3, none⟩ = some (.int .i64 lk) ∧ w'.cell? ⟨w.heap.size + 1, 4, none⟩ = some (.int .i64 (sz + 1)) ∧ w'.cell? ⟨w.heap.size + 1, 5, none⟩ = some (.int .i64 0) ∧ w'.cell? ⟨w.heap.size + 1 + 1, 2, none⟩ = some (.int .i64 y)) (go_keep)
          (first | (go_at_call 76; refine (allow_any rg wd lk sz y b hy _).mono ?_; rintro e w2 ⟨rfl, hb2⟩; have hc2 := fun b o (h : b < wr.heap.size) => hb2.cell (p := ⟨b, o, none⟩) h))
        go_wp2
        all_goals go_ret
        all_goals exact ⟨ret_int (by rw [HR.out]; simp [hno]), HB.trans ((hbr.mono HB.size).drew.trans (hb2.mono (Nat.le_trans HB.size hbr.size)))⟩
    · by_cases hok : okN rg wd lk sz z c = true
      · go_wp2
        go_region_held3 (fun w' => w'.cell? ⟨w.heap.size + 1, 0, none⟩ = some (.int .i64 1) ∧ w'.cell? ⟨w.heap.size + 1, 1, none⟩ = some (.int .i64 rg) ∧ w'.cell? ⟨w.heap.size + 1, 2, none⟩ = some (.int .i64 wd) ∧ w'.cell? ⟨w.heap.size + 1, 3, none⟩ = some (.int .i64 lk) ∧ w'.cell? ⟨w.heap.size + 1, 4, none⟩ = some (.int .i64 (sz + 1)) ∧ w'.cell? ⟨w.heap.size + 1, 5, none⟩ = some (.int .i64 0) ∧ w'.cell? ⟨w.heap.size + 1 + 1, 3, none⟩ = some (.int .i64 z)) (go_keep)
          (first | (go_at_call 76; refine (allow_any rg wd lk sz z c hz _).mono ?_; rintro e w2 ⟨rfl, hb2⟩; have hc2 := fun b o (h : b < wr.heap.size) => hb2.cell (p := ⟨b, o, none⟩) h))
        go_wp2
        go_roundw
        case rel => exact ⟨3, by omega, by go_num, hbr.drew.trans (hb2.mono hbr.size), fun _ => ha (by omega), fun _ => hb' (by omega), fun _ => hok⟩
        case measure => simp [intOf]
      · have hno : okN rg wd lk sz z c = false := by simpa using hok
        clear hok
        go_wp2
        go_region_held3 (fun w' => w'.cell? ⟨w.heap.size + 1, 0, none⟩ = some (.int .i64 1) ∧ w'.cell? ⟨w.heap.size + 1, 1, none⟩ = some (.int .i64 rg) ∧ w'.cell? ⟨w.heap.size + 1, 2, none⟩ = some (.int .i64 wd) ∧ w'.cell? ⟨w.heap.size + 1, 3, none⟩ = some (.int .i64 lk) ∧ w'.cell? ⟨w.heap.size + 1, 4, none⟩ = some (.int .i64 (sz + 1)) ∧ w'.cell? ⟨w.heap.size + 1, 5, none⟩ = some (.int .i64 0) ∧ w'.cell? ⟨w.heap.size + 1 + 1, 3, none⟩ = some (.int .i64 z)) (go_keep)
          (first | (go_at_call 76; refine (allow_any rg wd lk sz z c hz _).mono ?_; rintro e w2 ⟨rfl, hb2⟩; have hc2 := fun b o (h : b < wr.heap.size) => hb2.cell (p := ⟨b, o, none⟩) h))
        go_wp2
        all_goals go_ret
        all_goals exact ⟨ret_int (by rw [HR.out]; simp [hno]), HB.trans ((hbr.mono HB.size).drew.trans (hb2.mono (Nat.le_trans HB.size hbr.size)))⟩
    · have h1 := ha (by omega)
      have h2 := hb' (by omega)
      have h3 := hc' (by omega)
      clear ha hb' hc'
      go_wp2
      go_ret
      exact ⟨ret_int (by rw [HR.out]; simp [h1, h2, h3]), HB.trans (hbr.mono HB.size)⟩

theorem checkOrder_any (mb : Nat) (rg wd lk sz op a b c : Int) (w : World) (hm : w.heap[mb]? = some (.map shapesArr 18)) :
    Calls Tryz.prog 43 #[ints4 op a b c, .map (some mb), ints6 1 rg wd lk (sz + 1) 0] w fun e w' => e = .returned (.int .i64 (ordE rg wd lk sz op a b c)) ∧ Below w.heap.size w w' := by
  by_cases h : op < 1 ∨ 18 < op
  · have := checkOrder_no mb rg wd lk sz op a b c h w hm
    simpa only [ordE, kd_out h] using this
  · obtain ⟨j, x, y, z, hk, hf⟩ := find_in (op := op) (by omega)
    have := checkOrder_yes mb rg wd lk sz op a b c x y z j hk hf _ rfl w hm
    simpa only [ordE, hk] using this
end

section
open Go.RowKit

theorem lt_of_cell {w : World} {a : Addr} {v : Value} (h : w.cell? a = some v) : a.block < w.heap.size := by
  rcases Nat.lt_or_ge a.block w.heap.size with h1 | h1
  · exact h1
  · unfold World.cell? at h
    rw [Array.getElem?_eq_none h1] at h; cases h

/-- The threads' orders lie in w: thread t's slice is '.slice (A t) (L t) (C t)', its order i has the numbers 'X t i 0' to 'X t i 3'. -/
structure PIn (w : World) (ca : Option Addr) (n : Nat) (A : Nat → Option Addr) (L C : Nat → Nat) (X : Nat → Nat → Nat → Int) : Prop where
  code : ∀ t, t < n → ∃ b o, ca = some ⟨b, o, none⟩ ∧ w.cell? ⟨b, o + t, none⟩ = some (.slice (A t) (L t) (C t))
  ord : ∀ t i, t < n → i < L t → ∃ b o, A t = some ⟨b, o, none⟩ ∧ w.cell? ⟨b, o + i * 4, none⟩ = some (.int .i64 (X t i 0)) ∧ w.cell? ⟨b, o + i * 4 + 1, none⟩ = some (.int .i64 (X t i 1)) ∧
    w.cell? ⟨b, o + i * 4 + 2, none⟩ = some (.int .i64 (X t i 2)) ∧ w.cell? ⟨b, o + i * 4 + 3, none⟩ = some (.int .i64 (X t i 3))
  len : ∀ t, t < n → L t ≤ 9223372036854775807
  num : n ≤ 9223372036854775807

theorem PIn.below {w w' : World} {ca : Option Addr} {n : Nat} {A : Nat → Option Addr} {L C : Nat → Nat} {X : Nat → Nat → Nat → Int} (h : PIn w ca n A L C X) (hb : Below w.heap.size w w') : PIn w' ca n A L C X where
  code t ht := by
    obtain ⟨b, o, hc, h1⟩ := h.code t ht
    exact ⟨b, o, hc, (hb.cell (lt_of_cell h1)).trans h1⟩
  ord t i ht hi := by
    obtain ⟨b, o, hc, h0, h1, h2, h3⟩ := h.ord t i ht hi
    exact ⟨b, o, hc, (hb.cell (lt_of_cell h0)).trans h0, (hb.cell (lt_of_cell h1)).trans h1, (hb.cell (lt_of_cell h2)).trans h2, (hb.cell (lt_of_cell h3)).trans h3⟩
  len := h.len
  num := h.num

/-- A program in a box at block B, and behind it a box of three numbers, all 0, that may be written. -/
structure Boxes (w : World) (B : Nat) (ca : Option Addr) (n cc : Nat) (wa : Option Addr) (m wc : Nat) (lk rg : Int) : Prop where
  size : B + 2 ≤ w.heap.size
  p0 : w.cell? ⟨B, 0, none⟩ = some (.slice ca n cc)
  p1 : w.cell? ⟨B, 1, none⟩ = some (.slice wa m wc)
  p2 : w.cell? ⟨B, 2, none⟩ = some (.int .i64 lk)
  p3 : w.cell? ⟨B, 3, none⟩ = some (.int .i64 rg)
  r0 : w.cell? ⟨B + 1, 0, none⟩ = some (.int .i64 0)
  r1 : w.cell? ⟨B + 1, 1, none⟩ = some (.int .i64 0)
  r2 : w.cell? ⟨B + 1, 2, none⟩ = some (.int .i64 0)
  f0 : w.frozen? ⟨B + 1, 0, none⟩ = false
  f1 : w.frozen? ⟨B + 1, 1, none⟩ = false
  f2 : w.frozen? ⟨B + 1, 2, none⟩ = false

theorem Boxes.below {w w' : World} {B : Nat} {ca : Option Addr} {n cc : Nat} {wa : Option Addr} {m wc : Nat} {lk rg : Int} (h : Boxes w B ca n cc wa m wc lk rg) (hb : Below w.heap.size w w') : Boxes w' B ca n cc wa m wc lk rg :=
  ⟨Nat.le_trans h.size hb.size, (hb.cell (lt_of_cell h.p0)).trans h.p0, (hb.cell (lt_of_cell h.p1)).trans h.p1, (hb.cell (lt_of_cell h.p2)).trans h.p2, (hb.cell (lt_of_cell h.p3)).trans h.p3,
    (hb.cell (lt_of_cell h.r0)).trans h.r0, (hb.cell (lt_of_cell h.r1)).trans h.r1, (hb.cell (lt_of_cell h.r2)).trans h.r2,
    (hb.frozen (lt_of_cell h.r0)).trans h.f0, (hb.frozen (lt_of_cell h.r1)).trans h.f1, (hb.frozen (lt_of_cell h.r2)).trans h.f2⟩

theorem boxes_made (w : World) (ca : Option Addr) (n cc : Nat) (wa : Option Addr) (m wc : Nat) (lk rg : Int) (t u : TypeId) :
    Boxes ((w.alloc (.cells #[.slice ca n cc, .slice wa m wc, .int .i64 lk, .int .i64 rg] t)).alloc (.cells #[.int .i64 0, .int .i64 0, .int .i64 0] u)) w.heap.size ca n cc wa m wc lk rg := by
  constructor <;> go_simp
end

section
open Go.RowKit

/-- What lies in memory lies there when more is made. -/
theorem cell_up {w : World} {a : Addr} {v : Value} (h : w.cell? a = some v) (o : Obj) : (w.alloc o).cell? a = some v := (World.cell?_alloc_lt _ _ _ (lt_of_cell h)).trans h
def intsV (l : List Int) : List Value := l.map (Value.int .i64)
theorem intsV_at {l : List Int} {i : Nat} (h : i < l.length) : (intsV l)[i]? = some (.int .i64 (l.getD i 0)) := by
  unfold intsV
  rw [List.getElem?_map, List.getElem?_eq_getElem h]
  simp [List.getD, List.getElem?_eq_getElem h]
theorem intsV_set (l : List Int) (i : Nat) (x : Int) : intsV (l.set i x) = (intsV l).set i (.int .i64 x) := by simp [intsV, List.map_set]
theorem intsV_len (l : List Int) : (intsV l).length = l.length := by simp [intsV]
/-- An append's run, kept whole. -/
def AppS (ts : Array TypeId) (ty : TypeId) (args : Array Value) : Sem Value := Builtin.append_ ts ty args
theorem appS_eq (ts : Array TypeId) (ty : TypeId) (args : Array Value) : Builtin.append_ ts ty args = AppS ts ty args := rfl
theorem info_is {e : TypeId} {z : Value} {size bytes : Nat} (h : (Tryz.prog.info? e).map (fun i => (i.zero, i.size, i.bytes)) = some (some z, size, bytes)) : ∃ i, Tryz.prog.info? e = some i ∧ i.zero = some z ∧ i.size = size ∧ i.bytes = bytes := by
  cases hi : Tryz.prog.info? e with
  | none => rw [hi] at h; simp at h
  | some i => rw [hi] at h; simp at h; exact ⟨i, rfl, h.1, h.2.1, h.2.2⟩
/-- An append to a row of one's own of what has just been laid: its run. -/
theorem app_row {T e : TypeId} {z : Value} {size bytes : Nat} (ht : Tryz.prog.underlying T = some (.slice e)) (hinfo : (Tryz.prog.info? e).map (fun i => (i.zero, i.size, i.bytes)) = some (some z, size, bytes)) (hzs : z.cells.size = size) (hsz : 0 < size)
    {w W : World} {B : Nat} {v : Value} {n : Nat} {xs : List Value} (hown : w.ownsRow B e size v n xs) (hb : Below w.heap.size w W) (hB : B ≤ w.heap.size) (m : Nat) (news : Array Value) (hl : news.size = m * size) (h1 : ∀ u ∈ news.toList, u.oneCell' = true) (hm : 0 < m) (h63 : n + m ≤ 1000000) (hby : bytes ≤ 1000) :
    ∃ g cap w3, (AppS #[T, T] T #[v, .slice (some ⟨W.heap.size, 0, none⟩) m m]).run Tryz.prog (W.alloc (.cells news e)) = .ok (.slice (some ⟨g, 0, none⟩) (n + m) cap) w3 ∧ w3.ownsRow B e size (.slice (some ⟨g, 0, none⟩) (n + m) cap) (n + m) (xs ++ news.toList) ∧ (W.alloc (.cells news e)).grownBy w3 v.ownBlock ∧ (v.ownBlock = some g ∨ g = W.heap.size + 1) := by
  obtain ⟨i, hi, hz0, hz1, hz2⟩ := info_is hinfo
  have hown' : (W.alloc (.cells news e)).ownsRow B e size v n xs := (fam_keeps hown (fun g hg => hb.block g (hown.lt g hg).2)).alloc _
  have hbs := hb.size
  obtain ⟨g, cap, w3, r1, r2, r3, r4, _⟩ := run_append_lies (P := Tryz.prog) (W.alloc (.cells news e)) T T B e i z size bytes ht hi hz0 hz1 hz2 hzs hsz v n xs hown' ⟨W.heap.size, 0, none⟩ m m news.toList (by simpa using hl) (World.news_of_block (cs := news) (t := e) (fr := (0, 0)) (heap_alloc_new W _)) h1 hm (by unfold maxLen; omega) (by
    have : (n + m) * bytes ≤ 1000000 * 1000 := Nat.mul_le_mul h63 hby
    omega) (by simp; omega) (W.heap.size + 1) (by simp)
  exact ⟨g, cap, w3, r1, r2, r3, r4⟩
theorem infoI : (Tryz.prog.info? 3).map (fun i => (i.zero, i.size, i.bytes)) = some (some (.int .i64 0), 1, 8) := by kernel_rfl
/-- A list of numbers that came in, as it is read. -/
def SIs (w : World) (a : Option Addr) (l : List Int) : Prop := ∀ i, i < l.length → ∃ b o, a = some ⟨b, o, none⟩ ∧ w.cell? ⟨b, o + i, none⟩ = some (.int .i64 (l.getD i 0))
theorem SIs.below {w w1 : World} {a : Option Addr} {l : List Int} (h : SIs w a l) (hb : Below w.heap.size w w1) : SIs w1 a l := fun i hi => by
  obtain ⟨b, o, e, h1⟩ := h i hi
  exact ⟨b, o, e, (hb.cell (lt_of_cell h1)).trans h1⟩
theorem intsV_one (l : List Int) : ∀ u ∈ intsV l, u.oneCell' = true := fun u hu => by
  simp only [intsV, List.mem_map] at hu
  obtain ⟨x, _, rfl⟩ := hu
  rfl
theorem own_low {w : World} {B B' : Nat} {e : TypeId} {size : Nat} {v : Value} {n : Nat} {xs : List Value} (h : w.ownsRow B e size v n xs) (hB : B' ≤ B) : w.ownsRow B' e size v n xs := by
  refine ⟨h.1, ?_⟩
  rcases h.2 with h0 | ⟨g, cap, cur, hv, hg, r⟩
  · exact Or.inl h0
  · exact Or.inr ⟨g, cap, cur, hv, Nat.le_trans hB hg, r⟩
/-- 'append([]int{}, l...)'. -/
theorem app_src (W : World) (B : Nat) (hB : B ≤ W.heap.size) (sa : Option Addr) (l : List Int) (c : Nat) (hsrc : SIs W sa l) (hl : l.length * 8 ≤ 140737488355328) :
    ∃ g cap w3, (AppS #[23, 23] 23 #[.slice (some ⟨W.heap.size, 0, none⟩) 0 0, .slice sa l.length c]).run Tryz.prog (W.alloc (.cells #[] 3)) = .ok (.slice (some ⟨g, 0, none⟩) l.length cap) w3 ∧ w3.ownsRow B 3 1 (.slice (some ⟨g, 0, none⟩) l.length cap) l.length (intsV l) ∧ (W.alloc (.cells #[] 3)).grownBy w3 (some W.heap.size) ∧ W.heap.size ≤ g ∧ g < w3.heap.size := by
  obtain ⟨i, hi, hz0, hz1, hz2⟩ := info_is infoI
  have hown := World.ownsRow_made (base := B) (e := 3) (size := 1) W #[] 0 hB (by decide) rfl
  cases l with
  | nil =>
    refine ⟨W.heap.size, 0, W.alloc (.cells #[] 3), ?_, hown, ⟨rfl, rfl, rfl, Nat.le_refl _, fun _ _ _ => rfl⟩, Nat.le_refl _, by simp⟩
    have hs : Src Tryz.prog i.size 23 (.slice sa 0 c) 0 [] (W.alloc (.cells #[] 3)) := by
      cases sa with
      | none => exact Src.ofNil _ Tryz.underlying23 c
      | some a => exact Src.ofSlice _ Tryz.underlying23 a 0 c [] (by simp) (fun j u h => by simp at h) (fun u h => by cases h)
    have := run_append_room_src (P := Tryz.prog) (W.alloc (.cells #[] 3)) 23 23 23 3 i Tryz.underlying23 hi W.heap.size 0 0 0 (.slice sa 0 c) 0 [] hs (Nat.le_refl _) (fun j h => by simp at h) (fun j h => by simp at h)
    exact this
  | cons x r =>
    obtain ⟨b, o, rfl, _⟩ := hsrc 0 (by simp)
    have hnews : ∀ j u, (intsV (x :: r))[j]? = some u → (W.alloc (.cells #[] 3)).cell? ((⟨b, o, none⟩ : Addr).add j) = some u := fun j u hu => by
      have hj : j < (x :: r).length := by
        rcases Nat.lt_or_ge j (x :: r).length with h | h
        · exact h
        · rw [List.getElem?_eq_none (by rw [intsV_len]; exact h)] at hu; cases hu
      obtain ⟨b', o', e, h1⟩ := hsrc j hj
      simp only [Option.some.injEq, Addr.mk.injEq, and_true] at e
      obtain ⟨rfl, rfl⟩ := e
      have hadd : (⟨b, o, none⟩ : Addr).add j = ⟨b, o + j, none⟩ := by unfold Addr.add; split <;> simp_all
      rw [intsV_at hj] at hu
      rw [hadd, cell_up h1]
      exact hu
    obtain ⟨g, cap, w3, r1, r2, r3, r4, r5⟩ := run_append_lies (P := Tryz.prog) (W.alloc (.cells #[] 3)) 23 23 B 3 i _ 1 8 Tryz.underlying23 hi hz0 hz1 hz2 rfl (by omega) _ 0 [] hown ⟨b, o, none⟩ (x :: r).length c (intsV (x :: r)) (by rw [intsV_len]; omega) hnews (intsV_one _) (by simp) (by unfold maxLen; omega) (by omega) (by simp; omega) (W.heap.size + 1) (by simp)
    rw [Nat.zero_add] at r1 r2
    refine ⟨g, cap, w3, r1, r2, r3, ?_, r5⟩
    rcases r4 with r4 | r4
    · have : W.heap.size = g := by simpa [Value.ownBlock] using r4
      omega
    · omega
end

section
open Go.ChangeShapes Go.WideShapes Go.ChangeAt Go.RowKit Go.Joins Go.Deep

theorem cells25 : Tryz.prog.cellsOf 25 = 4 := by kernel_rfl
theorem cells34 : Tryz.prog.cellsOf 34 = 4 := by kernel_rfl
theorem cells35 : Tryz.prog.cellsOf 35 = 1 := by kernel_rfl
theorem cells3 : Tryz.prog.cellsOf 3 = 1 := by kernel_rfl

section
variable {H : Type} {enc : TypeId × Value → H} {w : World}

theorem four {cs : List Value} (h : cs.length = 4) : ∃ a b c d, cs = [a, b, c, d] := by
  match cs, h with
  | [a, b, c, d], _ => exact ⟨a, b, c, d, rfl⟩

theorem read_order {a : Addr} {k fuel : Nat} {cs : List Value} {x : DataW H × List MemPlace} (hc : w.cells? 0 (a.add k) 4 = some cs) (h : DataW.trod enc Tryz.prog w 0 (fun _ => true) true fuel 34 cs = some x) :
    ∃ Y : Nat → Int, (∀ j, j < 4 → w.cell? (a.add (k + j)) = some (.int .i64 (Y j))) ∧ ∀ j, j < 4 → (Lit.int .i64 (Y j)).wf = true := by
  obtain ⟨_, hl, hcell⟩ := World.cells?_some hc
  obtain ⟨y0, y1, y2, y3, n, _, _, h0, h1, h2, h3⟩ := trod_struct4 Tryz.underlying34 h
  obtain ⟨c0, c1, c2, c3, rfl⟩ := four hl
  simp only [cells3] at h0 h1 h2 h3
  obtain ⟨a0, e0, _, w0⟩ := DataW.trod_int Tryz.underlying3 h0
  obtain ⟨a1, e1, _, w1⟩ := DataW.trod_int Tryz.underlying3 h1
  obtain ⟨a2, e2, _, w2⟩ := DataW.trod_int Tryz.underlying3 h2
  obtain ⟨a3, e3, _, w3⟩ := DataW.trod_int Tryz.underlying3 h3
  simp at e0 e1 e2 e3
  subst e0 e1 e2 e3
  refine ⟨fun j => if j = 0 then a0 else if j = 1 then a1 else if j = 2 then a2 else a3, ?_, ?_⟩
  · intro j hj
    rw [← Addr.add_add, hcell j hj]
    rcases (by omega : j = 0 ∨ j = 1 ∨ j = 2 ∨ j = 3) with rfl | rfl | rfl | rfl <;> rfl
  · intro j hj
    rcases (by omega : j = 0 ∨ j = 1 ∨ j = 2 ∨ j = 3) with rfl | rfl | rfl | rfl <;> assumption

theorem read_thread {v : Value} {fuel : Nat} {x : DataW H × List MemPlace} (h : DataW.trod enc Tryz.prog w 0 (fun _ => true) true fuel 35 [v] = some x) :
    ∃ (a : Option Addr) (l c : Nat) (Y : Nat → Nat → Int), v = .slice a l c ∧ l ≤ maxLen ∧ ∀ i, i < l → (∃ b o, a = some ⟨b, o, none⟩ ∧ ∀ j, j < 4 → w.cell? ⟨b, o + (i * 4 + j), none⟩ = some (.int .i64 (Y i j))) ∧ ∀ j, j < 4 → (Lit.int .i64 (Y i j)).wf = true := by
  rcases open_slice Tryz.underlying35 h with ⟨hcs, _⟩ | ⟨a, len, cap, m, n, D, Pl, hcs, _, hl, hm, hmm, _, hx⟩
  · simp at hcs
    exact ⟨none, 0, 0, fun _ _ => 0, hcs, Nat.zero_le _, fun i hi => absurd hi (Nat.not_lt_zero _)⟩
  · simp at hcs hmm
    obtain ⟨Y, hY⟩ := choose_lt (α := Nat → Int) (p := fun i (Y : Nat → Int) => (∀ j, j < 4 → w.cell? (a.add (i * 4 + j)) = some (.int .i64 (Y j))) ∧ ∀ j, j < 4 → (Lit.int .i64 (Y j)).wf = true) (n := len) (fun i hi => by
      obtain ⟨cs', h1, h2⟩ := hx i (by omega)
      rw [cells34] at h1
      exact read_order h1 h2)
    refine ⟨some a, len, cap, Y, hcs, by omega, fun i hi => ⟨?_, (hY i hi).2⟩⟩
    obtain ⟨b, o, sp⟩ := a
    have hsp : sp = none := by simpa [Addr.add] using World.cell?_spot ((hY 0 (by omega)).1 0 (by omega))
    subst hsp
    exact ⟨b, o, rfl, fun j hj => by rw [← Go.WideShapes.add_plain]; exact (hY i hi).1 j hj⟩

theorem read_code {v : Value} {fuel : Nat} {x : DataW H × List MemPlace} (h : DataW.trod enc Tryz.prog w 0 (fun _ => true) true fuel 22 [v] = some x) :
    ∃ (ca : Option Addr) (n cc : Nat) (A : Nat → Option Addr) (L C : Nat → Nat) (X : Nat → Nat → Nat → Int), v = .slice ca n cc ∧ PIn w ca n A L C X ∧ ∀ t i j, t < n → i < L t → j < 4 → (Lit.int .i64 (X t i j)).wf = true := by
  rcases open_slice1 Tryz.underlying22 cells35 h with ⟨hcs, _⟩ | ⟨a, len, cap, m, n, V, D, Pl, hcs, _, hl, hm, hmm, _, hx⟩
  · simp at hcs
    exact ⟨none, 0, 0, fun _ => none, fun _ => 0, fun _ => 0, fun _ _ _ => 0, hcs, ⟨fun t ht => absurd ht (Nat.not_lt_zero _), fun t i ht _ => absurd ht (Nat.not_lt_zero _), fun t ht => absurd ht (Nat.not_lt_zero _), Nat.zero_le _⟩, fun t i j ht => absurd ht (Nat.not_lt_zero _)⟩
  · simp at hcs hmm
    obtain ⟨A, hA⟩ := choose_lt (α := Option Addr × Nat × Nat × (Nat → Nat → Int)) (n := len) (p := fun t q => V t = .slice q.1 q.2.1 q.2.2.1 ∧ q.2.1 ≤ maxLen ∧ ∀ i, i < q.2.1 → (∃ b o, q.1 = some ⟨b, o, none⟩ ∧ ∀ j, j < 4 → w.cell? ⟨b, o + (i * 4 + j), none⟩ = some (.int .i64 (q.2.2.2 i j))) ∧ ∀ j, j < 4 → (Lit.int .i64 (q.2.2.2 i j)).wf = true)
      (fun t ht => let ⟨a', l, c, Y, h1, h2, h3⟩ := read_thread (hx t (by omega)).2; ⟨(a', l, c, Y), h1, h2, h3⟩)
    refine ⟨some a, len, cap, fun t => (A t).1, fun t => (A t).2.1, fun t => (A t).2.2.1, fun t => (A t).2.2.2, hcs, ⟨fun t ht => ?_, fun t i ht hi => ?_, fun t ht => (hA t ht).2.1, by unfold maxLen at hm; omega⟩, fun t i j ht hi hj => ((hA t ht).2.2 i hi).2 j hj⟩
    · obtain ⟨b, o, sp⟩ := a
      have hsp : sp = none := by simpa [Addr.add] using World.cell?_spot (hx 0 (by omega)).1
      subst hsp
      exact ⟨b, o, rfl, by rw [← Go.WideShapes.add_plain, (hx t (by omega)).1, (hA t ht).1]⟩
    · obtain ⟨b, o, h1, h2⟩ := ((hA t ht).2.2 i hi).1
      exact ⟨b, o, h1, by simpa using h2 0 (by omega), by simpa [Nat.add_assoc] using h2 1 (by omega), by simpa [Nat.add_assoc] using h2 2 (by omega), by simpa [Nat.add_assoc] using h2 3 (by omega)⟩
end
end

end Go.Proofs.YtgofbkgfonlceacGreatDoor
