/-
  What the program's check of one order does.
  A program's orders as they lie in memory, and that they stay there while new memory is made.
  A program that is being read: its threads' orders in slices of the call's own, each in a block of its own.
  Orders anew, as plain functions: what each becomes, where it lies.
  How vast a program is.
-/
import Derived.Test.YtkailbdjilkneaaDoorTable
import Derived.Deep.RegionHeld3
import Derived.Deep.AppendLies
import Derived.Lib.SmallJoins
namespace Go.Proofs.YtkailbdjilkneaaDoor
section
open Go.RowKit

theorem zeroShape (w : World) : (zeroValue 168).run Tryd.prog w = .ok (.agg #[.string ⟨#[]⟩, .int .i64 0, .int .i64 0, .int .i64 0]) w := by kernel_rfl

theorem heap_two (w : World) (a b : Obj) (mb : Nat) (o : Obj) (h : w.heap[mb]? = some o) : ((w.alloc a).alloc b).heap[mb]? = some o := by
  have hl : mb < w.heap.size := by
    rcases Nat.lt_or_ge mb w.heap.size with h1 | h1
    · exact h1
    · rw [Array.getElem?_eq_none h1] at h; cases h
  rw [Below.heap_alloc _ _ _ (by simp; omega), Below.heap_alloc _ _ _ hl]; exact h

set_option maxHeartbeats 400000 in
theorem checkOrder_no (mb : Nat) (rg wd lk sz op a b c : Int) (ho : op < 1 ∨ 18 < op) (w : World) (hm : w.heap[mb]? = some (.map shapesArr 18)) :
    Calls Tryd.prog 57 #[ints4 op a b c, .map (some mb), ints6 1 rg wd lk (sz + 1) 0] w fun e w' => e = .returned (.int .i64 2) ∧ Below w.heap.size w w' := by
  have hl := run_look_no Tryd.underlying99 Tryd.underlying3 _ mb 18 shapesArr op _ (heap_two w (.cells #[.int .i64 op, .int .i64 a, .int .i64 b, .int .i64 c] 44) (.cells #[.int .i64 1, .int .i64 rg, .int .i64 wd, .int .i64 lk, .int .i64 (sz + 1), .int .i64 0] 102) mb _ hm) (zeroShape _) (find_out ho)
  clear hm
  go_enter Tryd.func57, Tryd.ntmps57
  go_wp2
  go_ret
  exact ⟨rfl, (((Below.refl _ _).alloc (Nat.le_refl _) _).alloc (by simp) _).alloc (by simp; omega) _⟩

set_option maxHeartbeats 1000000 in
theorem checkOrder_yes (mb : Nat) (rg wd lk sz op a b c x y z : Int) (j : Nat) (hk : kd op = some (x, y, z)) (hf : Instr.findNow (.int .i64) (.int .i64 op) shapesArr.toList 0 = some (some (j, .agg #[.string (nm op), .int .i64 x, .int .i64 y, .int .i64 z]))) (r : Int) (HR : Hid (r = if okN rg wd lk sz x a && okN rg wd lk sz y b && okN rg wd lk sz z c then 0 else 3)) (w : World) (hm : w.heap[mb]? = some (.map shapesArr 18)) :
    Calls Tryd.prog 57 #[ints4 op a b c, .map (some mb), ints6 1 rg wd lk (sz + 1) 0] w fun e w' => e = .returned (.int .i64 r) ∧ Below w.heap.size w w' := by
  have hl := run_look Tryd.underlying99 Tryd.underlying3 _ mb 18 shapesArr op j _ (heap_two w (.cells #[.int .i64 op, .int .i64 a, .int .i64 b, .int .i64 c] 44) (.cells #[.int .i64 1, .int .i64 rg, .int .i64 wd, .int .i64 lk, .int .i64 (sz + 1), .int .i64 0] 102) mb _ hm) hf
  obtain ⟨hx, hy, hz⟩ := kd_range hk
  clear hm hf hk
  have i0 : ∀ w, (Instr.index 171 (.agg #[.int .i64 a, .int .i64 b, .int .i64 c]) (.int .i64 0)).run Tryd.prog w = .ok (.int .i64 a) w := fun _ => by kernel_rfl
  have i1 : ∀ w, (Instr.index 171 (.agg #[.int .i64 a, .int .i64 b, .int .i64 c]) (.int .i64 1)).run Tryd.prog w = .ok (.int .i64 b) w := fun _ => by kernel_rfl
  have i2 : ∀ w, (Instr.index 171 (.agg #[.int .i64 a, .int .i64 b, .int .i64 c]) (.int .i64 2)).run Tryd.prog w = .ok (.int .i64 c) w := fun _ => by kernel_rfl
  go_enter Tryd.func57, Tryd.ntmps57
  go_wp2_with (first | (go_at_call 98; refine (numbersOf_any _ _ _ _ _).mono ?_; rintro e w1 ⟨rfl, hb1⟩))
  have hz1 : w.heap.size + 3 ≤ w1.heap.size := by have := hb1.size; simp at this; omega
  have l0 : w1.cell? ⟨w.heap.size + 1, 0, none⟩ = some (.int .i64 1) := (hb1.cell (p := ⟨w.heap.size + 1, 0, none⟩) (by simp)).trans (by go_simp)
  have l1 : w1.cell? ⟨w.heap.size + 1, 1, none⟩ = some (.int .i64 rg) := (hb1.cell (p := ⟨w.heap.size + 1, 1, none⟩) (by simp)).trans (by go_simp)
  have l2 : w1.cell? ⟨w.heap.size + 1, 2, none⟩ = some (.int .i64 wd) := (hb1.cell (p := ⟨w.heap.size + 1, 2, none⟩) (by simp)).trans (by go_simp)
  have l3 : w1.cell? ⟨w.heap.size + 1, 3, none⟩ = some (.int .i64 lk) := (hb1.cell (p := ⟨w.heap.size + 1, 3, none⟩) (by simp)).trans (by go_simp)
  have l4 : w1.cell? ⟨w.heap.size + 1, 4, none⟩ = some (.int .i64 (sz + 1)) := (hb1.cell (p := ⟨w.heap.size + 1, 4, none⟩) (by simp)).trans (by go_simp)
  have l5 : w1.cell? ⟨w.heap.size + 1, 5, none⟩ = some (.int .i64 0) := (hb1.cell (p := ⟨w.heap.size + 1, 5, none⟩) (by simp)).trans (by go_simp)
  have s1 : w1.cell? ⟨w.heap.size + 1 + 1, 1, none⟩ = some (.int .i64 x) := (hb1.cell (p := ⟨w.heap.size + 1 + 1, 1, none⟩) (by simp)).trans (by go_simp)
  have s2 : w1.cell? ⟨w.heap.size + 1 + 1, 2, none⟩ = some (.int .i64 y) := (hb1.cell (p := ⟨w.heap.size + 1 + 1, 2, none⟩) (by simp)).trans (by go_simp)
  have s3 : w1.cell? ⟨w.heap.size + 1 + 1, 3, none⟩ = some (.int .i64 z) := (hb1.cell (p := ⟨w.heap.size + 1 + 1, 3, none⟩) (by simp)).trans (by go_simp)
  have HB : Below w.heap.size w w1 := (((((Below.refl _ _).alloc (Nat.le_refl _) _).alloc (by simp) _).alloc (by simp; omega) _).trans (hb1.mono (by simp; omega)))
  clear hb1 hl
  go_loopw [22] (fun i wr => ∃ k : Int, (0 ≤ k ∧ k ≤ 3) ∧ i = .int .i64 k ∧ Below w1.heap.size w1 wr ∧ (0 < k → okN rg wd lk sz x a = true) ∧ (1 < k → okN rg wd lk sz y b = true) ∧ (2 < k → okN rg wd lk sz z c = true)) (fun i _ => 3 - (intOf i).toNat)
  case atStart => exact ⟨0, by omega, rfl, Below.refl _ _, by omega, by omega, by omega⟩
  case round =>
    obtain ⟨k, hk, rfl, hbr, ha, hb', hc'⟩ := hrel
    have hc := (fun b o (h : b < w1.heap.size) => hbr.cell (p := ⟨b, o, none⟩) h)
    rw [← hc _ _ (by omega)] at l0 l1 l2 l3 l4 l5 s1 s2 s3
    clear hc
    have hz3 : w.heap.size + 1 < wr.heap.size := by have := hbr.size; omega
    have hz4 : w.heap.size + 1 + 1 < wr.heap.size := by have := hbr.size; omega
    rcases (by omega : k = 0 ∨ k = 1 ∨ k = 2 ∨ k = 3) with rfl | rfl | rfl | rfl
    · by_cases hok : okN rg wd lk sz x a = true
      · go_wp2
        go_region_held3 (fun w' => w'.cell? ⟨w.heap.size + 1, 0, none⟩ = some (.int .i64 1) ∧ w'.cell? ⟨w.heap.size + 1, 1, none⟩ = some (.int .i64 rg) ∧ w'.cell? ⟨w.heap.size + 1, 2, none⟩ = some (.int .i64 wd) ∧ w'.cell? ⟨w.heap.size + 1, 3, none⟩ = some (.int .i64 lk) ∧ w'.cell? ⟨w.heap.size + 1, 4, none⟩ = some (.int .i64 (sz + 1)) ∧ w'.cell? ⟨w.heap.size + 1, 5, none⟩ = some (.int .i64 0) ∧ w'.cell? ⟨w.heap.size + 1 + 1, 1, none⟩ = some (.int .i64 x)) (go_keep)
          (first | (go_at_call 99; refine (allow_any rg wd lk sz x a hx _).mono ?_; rintro e w2 ⟨rfl, hb2⟩; have hc2 := fun b o (h : b < wr.heap.size) => hb2.cell (p := ⟨b, o, none⟩) h))
        go_wp2
        go_roundw
        case rel => exact ⟨1, by omega, by go_num, hbr.drew.trans (hb2.mono hbr.size), fun _ => hok, fun h => absurd h (by omega), fun h => absurd h (by omega)⟩
        case measure => simp [intOf]
      · have hno : okN rg wd lk sz x a = false := by simpa using hok
        clear hok
        go_wp2
        go_region_held3 (fun w' => w'.cell? ⟨w.heap.size + 1, 0, none⟩ = some (.int .i64 1) ∧ w'.cell? ⟨w.heap.size + 1, 1, none⟩ = some (.int .i64 rg) ∧ w'.cell? ⟨w.heap.size + 1, 2, none⟩ = some (.int .i64 wd) ∧ w'.cell? ⟨w.heap.size + 1, 3, none⟩ = some (.int .i64 lk) ∧ w'.cell? ⟨w.heap.size + 1, 4, none⟩ = some (.int .i64 (sz + 1)) ∧ w'.cell? ⟨w.heap.size + 1, 5, none⟩ = some (.int .i64 0) ∧ w'.cell? ⟨w.heap.size + 1 + 1, 1, none⟩ = some (.int .i64 x)) (go_keep)
          (first | (go_at_call 99; refine (allow_any rg wd lk sz x a hx _).mono ?_; rintro e w2 ⟨rfl, hb2⟩; have hc2 := fun b o (h : b < wr.heap.size) => hb2.cell (p := ⟨b, o, none⟩) h))
        go_wp2
        all_goals go_ret
        all_goals exact ⟨ret_int (by rw [HR.out]; simp [hno]), HB.trans ((hbr.mono HB.size).drew.trans (hb2.mono (Nat.le_trans HB.size hbr.size)))⟩
    · by_cases hok : okN rg wd lk sz y b = true
      · go_wp2
        go_region_held3 (fun w' => w'.cell? ⟨w.heap.size + 1, 0, none⟩ = some (.int .i64 1) ∧ w'.cell? ⟨w.heap.size + 1, 1, none⟩ = some (.int .i64 rg) ∧ w'.cell? ⟨w.heap.size + 1, 2, none⟩ = some (.int .i64 wd) ∧ w'.cell? ⟨w.heap.size + 1, 3, none⟩ = some (.int .i64 lk) ∧ w'.cell? ⟨w.heap.size + 1, 4, none⟩ = some (.int .i64 (sz + 1)) ∧ w'.cell? ⟨w.heap.size + 1, 5, none⟩ = some (.int .i64 0) ∧ w'.cell? ⟨w.heap.size + 1 + 1, 2, none⟩ = some (.int .i64 y)) (go_keep)
          (first | (go_at_call 99; refine (allow_any rg wd lk sz y b hy _).mono ?_; rintro e w2 ⟨rfl, hb2⟩; have hc2 := fun b o (h : b < wr.heap.size) => hb2.cell (p := ⟨b, o, none⟩) h))
        go_wp2
        go_roundw
        case rel => exact ⟨2, by omega, by go_num, hbr.drew.trans (hb2.mono hbr.size), fun _ => ha (by omega), fun _ => hok, fun h => absurd h (by omega)⟩
        case measure => simp [intOf]
      · have hno : okN rg wd lk sz y b = false := by simpa using hok
        clear hok
        go_wp2
        go_region_held3 (fun w' => w'.cell? ⟨w.heap.size + 1, 0, none⟩ = some (.int .i64 1) ∧ w'.cell? ⟨w.heap.size + 1, 1, none⟩ = some (.int .i64 rg) ∧ w'.cell? ⟨w.heap.size + 1, 2, none⟩ = some (.int .i64 wd) ∧ w'.cell? ⟨w.heap.size + 1, 3, none⟩ = some (.int .i64 lk) ∧ w'.cell? ⟨w.heap.size + 1, 4, none⟩ = some (.int .i64 (sz + 1)) ∧ w'.cell? ⟨w.heap.size + 1, 5, none⟩ = some (.int .i64 0) ∧ w'.cell? ⟨w.heap.size + 1 + 1, 2, none⟩ = some (.int .i64 y)) (go_keep)
          (first | (go_at_call 99; refine (allow_any rg wd lk sz y b hy _).mono ?_; rintro e w2 ⟨rfl, hb2⟩; have hc2 := fun b o (h : b < wr.heap.size) => hb2.cell (p := ⟨b, o, none⟩) h))
        go_wp2
        all_goals go_ret
        all_goals exact ⟨ret_int (by rw [HR.out]; simp [hno]), HB.trans ((hbr.mono HB.size).drew.trans (hb2.mono (Nat.le_trans HB.size hbr.size)))⟩
    · by_cases hok : okN rg wd lk sz z c = true
      · go_wp2
        go_region_held3 (fun w' => w'.cell? ⟨w.heap.size + 1, 0, none⟩ = some (.int .i64 1) ∧ w'.cell? ⟨w.heap.size + 1, 1, none⟩ = some (.int .i64 rg) ∧ w'.cell? ⟨w.heap.size + 1, 2, none⟩ = some (.int .i64 wd) ∧ w'.cell? ⟨w.heap.size + 1, 3, none⟩ = some (.int .i64 lk) ∧ w'.cell? ⟨w.heap.size + 1, 4, none⟩ = some (.int .i64 (sz + 1)) ∧ w'.cell? ⟨w.heap.size + 1, 5, none⟩ = some (.int .i64 0) ∧ w'.cell? ⟨w.heap.size + 1 + 1, 3, none⟩ = some (.int .i64 z)) (go_keep)
          (first | (go_at_call 99; refine (allow_any rg wd lk sz z c hz _).mono ?_; rintro e w2 ⟨rfl, hb2⟩; have hc2 := fun b o (h : b < wr.heap.size) => hb2.cell (p := ⟨b, o, none⟩) h))
        go_wp2
        go_roundw
        case rel => exact ⟨3, by omega, by go_num, hbr.drew.trans (hb2.mono hbr.size), fun _ => ha (by omega), fun _ => hb' (by omega), fun _ => hok⟩
        case measure => simp [intOf]
      · have hno : okN rg wd lk sz z c = false := by simpa using hok
        clear hok
        go_wp2
        go_region_held3 (fun w' => w'.cell? ⟨w.heap.size + 1, 0, none⟩ = some (.int .i64 1) ∧ w'.cell? ⟨w.heap.size + 1, 1, none⟩ = some (.int .i64 rg) ∧ w'.cell? ⟨w.heap.size + 1, 2, none⟩ = some (.int .i64 wd) ∧ w'.cell? ⟨w.heap.size + 1, 3, none⟩ = some (.int .i64 lk) ∧ w'.cell? ⟨w.heap.size + 1, 4, none⟩ = some (.int .i64 (sz + 1)) ∧ w'.cell? ⟨w.heap.size + 1, 5, none⟩ = some (.int .i64 0) ∧ w'.cell? ⟨w.heap.size + 1 + 1, 3, none⟩ = some (.int .i64 z)) (go_keep)
          (first | (go_at_call 99; refine (allow_any rg wd lk sz z c hz _).mono ?_; rintro e w2 ⟨rfl, hb2⟩; have hc2 := fun b o (h : b < wr.heap.size) => hb2.cell (p := ⟨b, o, none⟩) h))
        go_wp2
        all_goals go_ret
        all_goals exact ⟨ret_int (by rw [HR.out]; simp [hno]), HB.trans ((hbr.mono HB.size).drew.trans (hb2.mono (Nat.le_trans HB.size hbr.size)))⟩
    · have h1 := ha (by omega)
      have h2 := hb' (by omega)
      have h3 := hc' (by omega)
      clear ha hb' hc'
      go_wp2
      go_ret
      exact ⟨ret_int (by rw [HR.out]; simp [h1, h2, h3]), HB.trans (hbr.mono HB.size)⟩

theorem checkOrder_any (mb : Nat) (rg wd lk sz op a b c : Int) (w : World) (hm : w.heap[mb]? = some (.map shapesArr 18)) :
    Calls Tryd.prog 57 #[ints4 op a b c, .map (some mb), ints6 1 rg wd lk (sz + 1) 0] w fun e w' => e = .returned (.int .i64 (ordE rg wd lk sz op a b c)) ∧ Below w.heap.size w w' := by
  by_cases h : op < 1 ∨ 18 < op
  · have := checkOrder_no mb rg wd lk sz op a b c h w hm
    simpa only [ordE, kd_out h] using this
  · obtain ⟨j, x, y, z, hk, hf⟩ := find_in (op := op) (by omega)
    have := checkOrder_yes mb rg wd lk sz op a b c x y z j hk hf _ rfl w hm
    simpa only [ordE, hk] using this
end

section
open Go.RowKit

/-- The threads' orders lie in w: thread t's slice is '.slice (A t) (L t) (C t)', its order i has the numbers 'X t i 0' to 'X t i 3'. -/
structure PIn (w : World) (ca : Option Addr) (n : Nat) (A : Nat → Option Addr) (L C : Nat → Nat) (X : Nat → Nat → Nat → Int) : Prop where
  code : ∀ t, t < n → ∃ b o, ca = some ⟨b, o, none⟩ ∧ w.cell? ⟨b, o + t, none⟩ = some (.slice (A t) (L t) (C t))
  ord : ∀ t i, t < n → i < L t → ∃ b o, A t = some ⟨b, o, none⟩ ∧ w.cell? ⟨b, o + i * 4, none⟩ = some (.int .i64 (X t i 0)) ∧ w.cell? ⟨b, o + i * 4 + 1, none⟩ = some (.int .i64 (X t i 1)) ∧
    w.cell? ⟨b, o + i * 4 + 2, none⟩ = some (.int .i64 (X t i 2)) ∧ w.cell? ⟨b, o + i * 4 + 3, none⟩ = some (.int .i64 (X t i 3))
  len : ∀ t, t < n → L t ≤ 9223372036854775807
  num : n ≤ 9223372036854775807

theorem PIn.below {w w' : World} {ca : Option Addr} {n : Nat} {A : Nat → Option Addr} {L C : Nat → Nat} {X : Nat → Nat → Nat → Int} (h : PIn w ca n A L C X) (hb : Below w.heap.size w w') : PIn w' ca n A L C X where
  code t ht := by
    obtain ⟨b, o, hc, h1⟩ := h.code t ht
    exact ⟨b, o, hc, (hb.cell (lt_of_cell h1)).trans h1⟩
  ord t i ht hi := by
    obtain ⟨b, o, hc, h0, h1, h2, h3⟩ := h.ord t i ht hi
    exact ⟨b, o, hc, (hb.cell (lt_of_cell h0)).trans h0, (hb.cell (lt_of_cell h1)).trans h1, (hb.cell (lt_of_cell h2)).trans h2, (hb.cell (lt_of_cell h3)).trans h3⟩
  len := h.len
  num := h.num

/-- A program in a box at block B, and behind it a box of three numbers, all 0, that may be written. -/
structure Boxes (w : World) (B : Nat) (ca : Option Addr) (n cc : Nat) (wa : Option Addr) (m wc : Nat) (lk rg : Int) : Prop where
  size : B + 2 ≤ w.heap.size
  p0 : w.cell? ⟨B, 0, none⟩ = some (.slice ca n cc)
  p1 : w.cell? ⟨B, 1, none⟩ = some (.slice wa m wc)
  p2 : w.cell? ⟨B, 2, none⟩ = some (.int .i64 lk)
  p3 : w.cell? ⟨B, 3, none⟩ = some (.int .i64 rg)
  r0 : w.cell? ⟨B + 1, 0, none⟩ = some (.int .i64 0)
  r1 : w.cell? ⟨B + 1, 1, none⟩ = some (.int .i64 0)
  r2 : w.cell? ⟨B + 1, 2, none⟩ = some (.int .i64 0)
  f0 : w.frozen? ⟨B + 1, 0, none⟩ = false
  f1 : w.frozen? ⟨B + 1, 1, none⟩ = false
  f2 : w.frozen? ⟨B + 1, 2, none⟩ = false

theorem Boxes.below {w w' : World} {B : Nat} {ca : Option Addr} {n cc : Nat} {wa : Option Addr} {m wc : Nat} {lk rg : Int} (h : Boxes w B ca n cc wa m wc lk rg) (hb : Below w.heap.size w w') : Boxes w' B ca n cc wa m wc lk rg :=
  ⟨Nat.le_trans h.size hb.size, (hb.cell (lt_of_cell h.p0)).trans h.p0, (hb.cell (lt_of_cell h.p1)).trans h.p1, (hb.cell (lt_of_cell h.p2)).trans h.p2, (hb.cell (lt_of_cell h.p3)).trans h.p3,
    (hb.cell (lt_of_cell h.r0)).trans h.r0, (hb.cell (lt_of_cell h.r1)).trans h.r1, (hb.cell (lt_of_cell h.r2)).trans h.r2,
    (hb.frozen (lt_of_cell h.r0)).trans h.f0, (hb.frozen (lt_of_cell h.r1)).trans h.f1, (hb.frozen (lt_of_cell h.r2)).trans h.f2⟩

theorem boxes_made (w : World) (ca : Option Addr) (n cc : Nat) (wa : Option Addr) (m wc : Nat) (lk rg : Int) (t u : TypeId) :
    Boxes ((w.alloc (.cells #[.slice ca n cc, .slice wa m wc, .int .i64 lk, .int .i64 rg] t)).alloc (.cells #[.int .i64 0, .int .i64 0, .int .i64 0] u)) w.heap.size ca n cc wa m wc lk rg := by
  constructor <;> go_simp
end

section
open Go.RowKit

abbrev I4 := Int × Int × Int × Int
def cells4 (x : I4) : List Value := [.int .i64 x.1, .int .i64 x.2.1, .int .i64 x.2.2.1, .int .i64 x.2.2.2]
def cellsT (l : List I4) : List Value := l.flatMap cells4
theorem cellsT_len (l : List I4) : (cellsT l).length = l.length * 4 := by
  induction l with
  | nil => rfl
  | cons x r ih => simp [cellsT, cells4] at ih ⊢; omega
theorem lt_of_owns {w : World} {B : Nat} {e : TypeId} {size : Nat} {v : Value} {n : Nat} {xs : List Value} (h : w.ownsRow B e size v n xs) {g : Nat} (hg : v.ownBlock = some g) : g < w.heap.size := (h.lt g hg).2

theorem owns_far {w : World} {B : Nat} {e : TypeId} {size : Nat} {v : Value} {n : Nat} {xs : List Value} (h : w.ownsRow B e size v n xs) {a : Addr} {u : Value} (hne : v.ownBlock ≠ some a.block) : (w.setCell a u).ownsRow B e size v n xs := by
  refine ⟨h.1, ?_⟩
  rcases h.2 with h0 | ⟨g, cap, cur, hv, hg, hh, r⟩
  · exact Or.inl h0
  · refine Or.inr ⟨g, cap, cur, hv, hg, ?_, r⟩
    rw [Below.heap_setCell _ _ _ _ (fun e => hne (by rw [hv]; simp [Value.ownBlock, e]))]
    exact hh

section
variable {w w' : World} {B : Nat} {cv wv : Value} {tv : List Value} {ths : List (List I4)} {wds : List Int}

end
end

section
open Go.RowKit

/-- A thread's order. -/
def ordAt (X : Nat → Nat → Nat → Int) (t i : Nat) : I4 := (X t i 0, X t i 1, X t i 2, X t i 3)
def nth4 (x : I4) (q : Nat) : Int := if q = 0 then x.1 else if q = 1 then x.2.1 else if q = 2 then x.2.2.1 else x.2.2.2
def fenceI : I4 := (12, 0, 0, 0)
/-- An order, or nothing if d. -/
def bDrop (d : Bool) (x : I4) : List I4 := if d then [] else [x]
/-- An order with its places led on. -/
def ledO (pl : Nat → Nat) (x : I4) : I4 := (x.1, (if x.1 = 14 then (pl x.2.1.toNat : Int) else x.2.1), (if x.1 = 15 then (pl x.2.2.1.toNat : Int) else x.2.2.1), x.2.2.2)
/-- Where what each order became begins. -/
def plR (b : Nat → List I4) : Nat → Nat
  | 0 => 0
  | i + 1 => plR b i + (b i).length
def rawR (b : Nat → List I4) : Nat → List I4
  | 0 => []
  | i + 1 => rawR b i ++ b i
/-- A thread's new orders. -/
def codeR (b : Nat → List I4) (L : Nat) : List I4 := (rawR b L).map (ledO (plR b))
section
variable {b : Nat → List I4}
theorem raw_len : ∀ i, (rawR b i).length = plR b i
  | 0 => rfl
  | i + 1 => by rw [rawR, List.length_append, raw_len i, plR]
theorem code_len (L : Nat) : (codeR b L).length = plR b L := by rw [codeR, List.length_map, raw_len]
theorem pl_mono {i j : Nat} (h : i ≤ j) : plR b i ≤ plR b j := by
  induction h with
  | refl => exact Nat.le_refl _
  | step _ ih => exact Nat.le_trans ih (Nat.le_add_right _ _)
theorem raw_at {i k : Nat} (hk : k < (b i).length) : ∀ {L : Nat}, i < L → (rawR b L)[plR b i + k]? = (b i)[k]?
  | 0, h => absurd h (by omega)
  | L + 1, h => by
    rw [rawR]
    by_cases e : i = L
    · subst e
      rw [List.getElem?_append_right (by rw [raw_len]; omega), raw_len]
      congr 1
      omega
    · have h1 : plR b (i + 1) ≤ plR b L := pl_mono (by omega)
      rw [plR] at h1
      rw [List.getElem?_append_left (by rw [raw_len]; omega)]
      exact raw_at hk (by omega)
theorem raw_find : ∀ {L j : Nat}, j < plR b L → ∃ i k, i < L ∧ k < (b i).length ∧ j = plR b i + k
  | 0, j, h => absurd h (by simp [plR])
  | L + 1, j, h => by
    rw [plR] at h
    by_cases e : j < plR b L
    · obtain ⟨i, k, h1, h2, h3⟩ := raw_find e
      exact ⟨i, k, by omega, h2, h3⟩
    · exact ⟨L, j - plR b L, by omega, by omega, by omega⟩
theorem code_at {i k L : Nat} (hk : k < (b i).length) (hi : i < L) (d : I4) : (codeR b L).getD (plR b i + k) d = ledO (plR b) ((b i).getD k d) := by
  have h := raw_at hk hi
  rw [List.getD_eq_getElem?_getD, codeR, List.getElem?_map, h, List.getElem?_eq_getElem hk]
  simp [List.getD, hk]
theorem raw_congr {c : Nat → List I4} : ∀ {L : Nat}, (∀ i, i < L → b i = c i) → rawR b L = rawR c L ∧ plR b L = plR c L
  | 0, _ => ⟨rfl, rfl⟩
  | L + 1, h => by
    obtain ⟨h1, h2⟩ := raw_congr (L := L) (fun i hi => h i (by omega))
    rw [rawR, rawR, plR, plR, h1, h2, h L (by omega)]
    exact ⟨rfl, rfl⟩
end
end

section
open Go.RowKit

/-- It answers yes or no. -/
def IsBool (e : Ending) : Prop := ∃ b, e = .returned (.bool b)

set_option maxHeartbeats 1000000 in
theorem vast_any (ca : Option Addr) (n cc : Nat) (wa : Option Addr) (m wc : Nat) (lk rg : Int) (A : Nat → Option Addr) (L C : Nat → Nat) (X : Nat → Nat → Nat → Int) (_hm : m ≤ 9223372036854775807) (w : World) (hp : PIn w ca n A L C X) :
    Calls Tryd.prog 9 #[prgV ca n cc wa m wc lk rg] w fun e w' => IsBool e ∧ Below w.heap.size w w' := by
  have hn := hp.num
  have HB : Below w.heap.size w (w.alloc (.cells #[.slice ca n cc, .slice wa m wc, .int .i64 lk, .int .i64 rg] 25)) := (Below.refl _ _).alloc (Nat.le_refl _) _
  have hp2 := hp.below HB
  clear hp
  go_enter Tryd.func9, Tryd.ntmps9
  go_wp2
  go_loop [3, 4] (fun s i => ∃ (q : Int) (k : Nat), k ≤ n ∧ s = .int .i64 q ∧ i = .int .i64 k) (fun _ i => n - (intOf i).toNat)
  case atStart => exact ⟨_, 0, Nat.zero_le _, rfl, rfl⟩
  case round =>
    obtain ⟨q, k, hk, rfl, rfl⟩ := hrel
    by_cases hlt : k < n
    · obtain ⟨cb, co, rfl, hcell⟩ := hp2.code k hlt
      have hl := hp2.len k hlt
      by_cases h100 : (k : Int) < 100
      · go_wp2
        go_round
        case rel => exact ⟨_, k + 1, by omega, rfl, by go_num⟩
        case measure => simp [intOf]; omega
      · go_wp2
        all_goals go_ret
        all_goals exact ⟨⟨_, rfl⟩, HB⟩
    · go_wp2
      all_goals go_ret
      all_goals exact ⟨⟨_, rfl⟩, HB⟩
end

end Go.Proofs.YtkailbdjilkneaaDoor
