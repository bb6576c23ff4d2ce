/-
  What the program's check of one order does.
-/
import Derived.Test.YtocfocjnnjdcgaaDoorTable
import Derived.Deep.RegionHeld3
namespace Go.Proofs.YtocfocjnnjdcgaaDoor
open Go.RowKit

theorem zeroShape (w : World) : (zeroValue 148).run Tryd.prog w = .ok (.agg #[.string ⟨#[]⟩, .int .i64 0, .int .i64 0, .int .i64 0]) w := by kernel_rfl

theorem heap_two (w : World) (a b : Obj) (mb : Nat) (o : Obj) (h : w.heap[mb]? = some o) : ((w.alloc a).alloc b).heap[mb]? = some o := by
  have hl : mb < w.heap.size := by
    rcases Nat.lt_or_ge mb w.heap.size with h1 | h1
    · exact h1
    · rw [Array.getElem?_eq_none h1] at h; cases h
  rw [Below.heap_alloc _ _ _ (by simp; omega), Below.heap_alloc _ _ _ hl]; exact h

set_option maxHeartbeats 400000 in
theorem checkOrder_no (mb : Nat) (rg wd lk sz op a b c : Int) (ho : op < 1 ∨ 18 < op) (w : World) (hm : w.heap[mb]? = some (.map shapesArr 18)) :
    Calls Tryd.prog 68 #[ints4 op a b c, .map (some mb), ints6 1 rg wd lk (sz + 1) 0] w fun e w' => e = .returned (.int .i64 2) ∧ Below w.heap.size w w' := by
  have hl := run_look_no Tryd.underlying114 Tryd.underlying3 _ mb 18 shapesArr op _ (heap_two w (.cells #[.int .i64 op, .int .i64 a, .int .i64 b, .int .i64 c] 55) (.cells #[.int .i64 1, .int .i64 rg, .int .i64 wd, .int .i64 lk, .int .i64 (sz + 1), .int .i64 0] 117) mb _ hm) (zeroShape _) (find_out ho)
  clear hm
  go_enter Tryd.func68, Tryd.ntmps68
  go_wp2
  go_ret
  exact ⟨rfl, (((Below.refl _ _).alloc (Nat.le_refl _) _).alloc (by simp) _).alloc (by simp; omega) _⟩

set_option maxHeartbeats 1000000 in
theorem checkOrder_yes (mb : Nat) (rg wd lk sz op a b c x y z : Int) (j : Nat) (hk : kd op = some (x, y, z)) (hf : Instr.findNow (.int .i64) (.int .i64 op) shapesArr.toList 0 = some (some (j, .agg #[.string (nm op), .int .i64 x, .int .i64 y, .int .i64 z]))) (r : Int) (HR : Hid (r = if okN rg wd lk sz x a && okN rg wd lk sz y b && okN rg wd lk sz z c then 0 else 3)) (w : World) (hm : w.heap[mb]? = some (.map shapesArr 18)) :
    Calls Tryd.prog 68 #[ints4 op a b c, .map (some mb), ints6 1 rg wd lk (sz + 1) 0] w fun e w' => e = .returned (.int .i64 r) ∧ Below w.heap.size w w' := by
  have hl := run_look Tryd.underlying114 Tryd.underlying3 _ mb 18 shapesArr op j _ (heap_two w (.cells #[.int .i64 op, .int .i64 a, .int .i64 b, .int .i64 c] 55) (.cells #[.int .i64 1, .int .i64 rg, .int .i64 wd, .int .i64 lk, .int .i64 (sz + 1), .int .i64 0] 117) mb _ hm) hf
  obtain ⟨hx, hy, hz⟩ := kd_range hk
  clear hm hf hk
  have i0 : ∀ w, (Instr.index 143 (.agg #[.int .i64 a, .int .i64 b, .int .i64 c]) (.int .i64 0)).run Tryd.prog w = .ok (.int .i64 a) w := fun _ => by kernel_rfl
  have i1 : ∀ w, (Instr.index 143 (.agg #[.int .i64 a, .int .i64 b, .int .i64 c]) (.int .i64 1)).run Tryd.prog w = .ok (.int .i64 b) w := fun _ => by kernel_rfl
  have i2 : ∀ w, (Instr.index 143 (.agg #[.int .i64 a, .int .i64 b, .int .i64 c]) (.int .i64 2)).run Tryd.prog w = .ok (.int .i64 c) w := fun _ => by kernel_rfl
  go_enter Tryd.func68, Tryd.ntmps68
  go_wp2_with (first | (go_at_call 85; refine (numbersOf_any _ _ _ _ _).mono ?_; rintro e w1 ⟨rfl, hb1⟩))
  have hz1 : w.heap.size + 3 ≤ w1.heap.size := by have := hb1.size; simp at this; omega
  have l0 : w1.cell? ⟨w.heap.size + 1, 0, none⟩ = some (.int .i64 1) := (hb1.cell (p := ⟨w.heap.size + 1, 0, none⟩) (by simp)).trans (by go_simp)
  have l1 : w1.cell? ⟨w.heap.size + 1, 1, none⟩ = some (.int .i64 rg) := (hb1.cell (p := ⟨w.heap.size + 1, 1, none⟩) (by simp)).trans (by go_simp)
  have l2 : w1.cell? ⟨w.heap.size + 1, 2, none⟩ = some (.int .i64 wd) := (hb1.cell (p := ⟨w.heap.size + 1, 2, none⟩) (by simp)).trans (by go_simp)
  have l3 : w1.cell? ⟨w.heap.size + 1, 3, none⟩ = some (.int .i64 lk) := (hb1.cell (p := ⟨w.heap.size + 1, 3, none⟩) (by simp)).trans (by go_simp)
  have l4 : w1.cell? ⟨w.heap.size + 1, 4, none⟩ = some (.int .i64 (sz + 1)) := (hb1.cell (p := ⟨w.heap.size + 1, 4, none⟩) (by simp)).trans (by go_simp)
  have l5 : w1.cell? ⟨w.heap.size + 1, 5, none⟩ = some (.int .i64 0) := (hb1.cell (p := ⟨w.heap.size + 1, 5, none⟩) (by simp)).trans (by go_simp)
  have s1 : w1.cell? ⟨w.heap.size + 1 + 1, 1, none⟩ = some (.int .i64 x) := (hb1.cell (p := ⟨w.heap.size + 1 + 1, 1, none⟩) (by simp)).trans (by go_simp)
  have s2 : w1.cell? ⟨w.heap.size + 1 + 1, 2, none⟩ = some (.int .i64 y) := (hb1.cell (p := ⟨w.heap.size + 1 + 1, 2, none⟩) (by simp)).trans (by go_simp)
  have s3 : w1.cell? ⟨w.heap.size + 1 + 1, 3, none⟩ = some (.int .i64 z) := (hb1.cell (p := ⟨w.heap.size + 1 + 1, 3, none⟩) (by simp)).trans (by go_simp)
  have HB : Below w.heap.size w w1 := (((((Below.refl _ _).alloc (Nat.le_refl _) _).alloc (by simp) _).alloc (by simp; omega) _).trans (hb1.mono (by simp; omega)))
  clear hb1 hl
  go_loopw [22] (fun i wr => ∃ k : Int, (0 ≤ k ∧ k ≤ 3) ∧ i = .int .i64 k ∧ Below w1.heap.size w1 wr ∧ (0 < k → okN rg wd lk sz x a = true) ∧ (1 < k → okN rg wd lk sz y b = true) ∧ (2 < k → okN rg wd lk sz z c = true)) (fun i _ => 3 - (intOf i).toNat)
  case atStart => exact ⟨0, by omega, rfl, Below.refl _ _, by omega, by omega, by omega⟩
  case round =>
    obtain ⟨k, hk, rfl, hbr, ha, hb', hc'⟩ := hrel
    have hc := (fun b o (h : b < w1.heap.size) => hbr.cell (p := ⟨b, o, none⟩) h)
    rw [← hc _ _ (by omega)] at l0 l1 l2 l3 l4 l5 s1 s2 s3
    clear hc
    have hz3 : w.heap.size + 1 < wr.heap.size := by have := hbr.size; omega
    have hz4 : w.heap.size + 1 + 1 < wr.heap.size := by have := hbr.size; omega
    rcases (by omega : k = 0 ∨ k = 1 ∨ k = 2 ∨ k = 3) with rfl | rfl | rfl | rfl
    · by_cases hok : okN rg wd lk sz x a = true
      · go_wp2
        go_region_held3 (fun w' => w'.cell? ⟨w.heap.size + 1, 0, none⟩ = some (.int .i64 1) ∧ w'.cell? ⟨w.heap.size + 1, 1, none⟩ = some (.int .i64 rg) ∧ w'.cell? ⟨w.heap.size + 1, 2, none⟩ = some (.int .i64 wd) ∧ w'.cell? ⟨w.heap.size + 1, 3, none⟩ = some (.int .i64 lk) ∧ w'.cell? ⟨w.heap.size + 1, 4, none⟩ = some (.int .i64 (sz + 1)) ∧ w'.cell? ⟨w.heap.size + 1, 5, none⟩ = some (.int .i64 0) ∧ w'.cell? ⟨w.heap.size + 1 + 1, 1, none⟩ = some (.int .i64 x)) (go_keep)
          (first | (go_at_call 87; refine (allow_any rg wd lk sz x a hx _).mono ?_; rintro e w2 ⟨rfl, hb2⟩; have hc2 := fun b o (h : b < wr.heap.size) => hb2.cell (p := ⟨b, o, none⟩) h))
        go_wp2
        go_roundw
        case rel => exact ⟨1, by omega, by go_num, hbr.drew.trans (hb2.mono hbr.size), fun _ => hok, fun h => absurd h (by omega), fun h => absurd h (by omega)⟩
        case measure => simp [intOf]
      · have hno : okN rg wd lk sz x a = false := by simpa using hok
        clear hok
        go_wp2
        go_region_held3 (fun w' => w'.cell? ⟨w.heap.size + 1, 0, none⟩ = some (.int .i64 1) ∧ w'.cell? ⟨w.heap.size + 1, 1, none⟩ = some (.int .i64 rg) ∧ w'.cell? ⟨w.heap.size + 1, 2, none⟩ = some (.int .i64 wd) ∧ w'.cell? ⟨w.heap.size + 1, 3, none⟩ = some (.int .i64 lk) ∧ w'.cell? ⟨w.heap.size + 1, 4, none⟩ = some (.int .i64 (sz + 1)) ∧ w'.cell? ⟨w.heap.size + 1, 5, none⟩ = some (.int .i64 0) ∧ w'.cell? ⟨w.heap.size + 1 + 1, 1, none⟩ = some (.int .i64 x)) (go_keep)
          (first | (go_at_call 87; refine (allow_any rg wd lk sz x a hx _).mono ?_; rintro e w2 ⟨rfl, hb2⟩; have hc2 := fun b o (h : b < wr.heap.size) => hb2.cell (p := ⟨b, o, none⟩) h))
        go_wp2
        all_goals go_ret
        all_goals exact ⟨ret_int (by rw [HR.out]; simp [hno]), HB.trans ((hbr.mono HB.size).drew.trans (hb2.mono (Nat.le_trans HB.size hbr.size)))⟩
    · by_cases hok : okN rg wd lk sz y b = true
      · go_wp2
        go_region_held3 (fun w' => w'.cell? ⟨w.heap.size + 1, 0, none⟩ = some (.int .i64 1) ∧ w'.cell? ⟨w.heap.size + 1, 1, none⟩ = some (.int .i64 rg) ∧ w'.cell? ⟨w.heap.size + 1, 2, none⟩ = some (.int .i64 wd) ∧ w'.cell? ⟨w.heap.size + 1, 3, none⟩ = some (.int .i64 lk) ∧ w'.cell? ⟨w.heap.size + 1, 4, none⟩ = some (.int .i64 (sz + 1)) ∧ w'.cell? ⟨w.heap.size + 1, 5, none⟩ = some (.int .i64 0) ∧ w'.cell? ⟨w.heap.size + 1 + 1, 2, none⟩ = some (.int .i64 y)) (go_keep)
          (first | (go_at_call 87; refine (allow_any rg wd lk sz y b hy _).mono ?_; rintro e w2 ⟨rfl, hb2⟩; have hc2 := fun b o (h : b < wr.heap.size) => hb2.cell (p := ⟨b, o, none⟩) h))
        go_wp2
        go_roundw
        case rel => exact ⟨2, by omega, by go_num, hbr.drew.trans (hb2.mono hbr.size), fun _ => ha (by omega), fun _ => hok, fun h => absurd h (by omega)⟩
        case measure => simp [intOf]
      · have hno : okN rg wd lk sz y b = false := by simpa using hok
        clear hok
        go_wp2
        go_region_held3 (fun w' => w'.cell? ⟨w.heap.size + 1, 0, none⟩ = some (.int .i64 1) ∧ w'.cell? ⟨w.heap.size + 1, 1, none⟩ = some (.int .i64 rg) ∧ w'.cell? ⟨w.heap.size + 1, 2, none⟩ = some (.int .i64 wd) ∧ w'.cell? ⟨w.heap.size + 1, 3, none⟩ = some (.int .i64 lk) ∧ w'.cell? ⟨w.heap.size + 1, 4, none⟩ = some (.int .i64 (sz + 1)) ∧ w'.cell? ⟨w.heap.size + 1, 5, none⟩ = some (.int .i64 0) ∧ w'.cell? ⟨w.heap.size + 1 + 1, 2, none⟩ = some (.int .i64 y)) (go_keep)
          (first | (go_at_call 87; refine (allow_any rg wd lk sz y b hy _).mono ?_; rintro e w2 ⟨rfl, hb2⟩; have hc2 := fun b o (h : b < wr.heap.size) => hb2.cell (p := ⟨b, o, none⟩) h))
        go_wp2
        all_goals go_ret
        all_goals exact ⟨ret_int (by rw [HR.out]; simp [hno]), HB.trans ((hbr.mono HB.size).drew.trans (hb2.mono (Nat.le_trans HB.size hbr.size)))⟩
    · by_cases hok : okN rg wd lk sz z c = true
      · go_wp2
        go_region_held3 (fun w' => w'.cell? ⟨w.heap.size + 1, 0, none⟩ = some (.int .i64 1) ∧ w'.cell? ⟨w.heap.size + 1, 1, none⟩ = some (.int .i64 rg) ∧ w'.cell? ⟨w.heap.size + 1, 2, none⟩ = some (.int .i64 wd) ∧ w'.cell? ⟨w.heap.size + 1, 3, none⟩ = some (.int .i64 lk) ∧ w'.cell? ⟨w.heap.size + 1, 4, none⟩ = some (.int .i64 (sz + 1)) ∧ w'.cell? ⟨w.heap.size + 1, 5, none⟩ = some (.int .i64 0) ∧ w'.cell? ⟨w.heap.size + 1 + 1, 3, none⟩ = some (.int .i64 z)) (go_keep)
          (first | (go_at_call 87; refine (allow_any rg wd lk sz z c hz _).mono ?_; rintro e w2 ⟨rfl, hb2⟩; have hc2 := fun b o (h : b < wr.heap.size) => hb2.cell (p := ⟨b, o, none⟩) h))
        go_wp2
        go_roundw
        case rel => exact ⟨3, by omega, by go_num, hbr.drew.trans (hb2.mono hbr.size), fun _ => ha (by omega), fun _ => hb' (by omega), fun _ => hok⟩
        case measure => simp [intOf]
      · have hno : okN rg wd lk sz z c = false := by simpa using hok
        clear hok
        go_wp2
        go_region_held3 (fun w' => w'.cell? ⟨w.heap.size + 1, 0, none⟩ = some (.int .i64 1) ∧ w'.cell? ⟨w.heap.size + 1, 1, none⟩ = some (.int .i64 rg) ∧ w'.cell? ⟨w.heap.size + 1, 2, none⟩ = some (.int .i64 wd) ∧ w'.cell? ⟨w.heap.size + 1, 3, none⟩ = some (.int .i64 lk) ∧ w'.cell? ⟨w.heap.size + 1, 4, none⟩ = some (.int .i64 (sz + 1)) ∧ w'.cell? ⟨w.heap.size + 1, 5, none⟩ = some (.int .i64 0) ∧ w'.cell? ⟨w.heap.size + 1 + 1, 3, none⟩ = some (.int .i64 z)) (go_keep)
          (first | (go_at_call 87; refine (allow_any rg wd lk sz z c hz _).mono ?_; rintro e w2 ⟨rfl, hb2⟩; have hc2 := fun b o (h : b < wr.heap.size) => hb2.cell (p := ⟨b, o, none⟩) h))
        go_wp2
        all_goals go_ret
        all_goals exact ⟨ret_int (by rw [HR.out]; simp [hno]), HB.trans ((hbr.mono HB.size).drew.trans (hb2.mono (Nat.le_trans HB.size hbr.size)))⟩
    · have h1 := ha (by omega)
      have h2 := hb' (by omega)
      have h3 := hc' (by omega)
      clear ha hb' hc'
      go_wp2
      go_ret
      exact ⟨ret_int (by rw [HR.out]; simp [h1, h2, h3]), HB.trans (hbr.mono HB.size)⟩

theorem checkOrder_any (mb : Nat) (rg wd lk sz op a b c : Int) (w : World) (hm : w.heap[mb]? = some (.map shapesArr 18)) :
    Calls Tryd.prog 68 #[ints4 op a b c, .map (some mb), ints6 1 rg wd lk (sz + 1) 0] w fun e w' => e = .returned (.int .i64 (ordE rg wd lk sz op a b c)) ∧ Below w.heap.size w w' := by
  by_cases h : op < 1 ∨ 18 < op
  · have := checkOrder_no mb rg wd lk sz op a b c h w hm
    simpa only [ordE, kd_out h] using this
  · obtain ⟨j, x, y, z, hk, hf⟩ := find_in (op := op) (by omega)
    have := checkOrder_yes mb rg wd lk sz op a b c x y z j hk hf _ rfl w hm
    simpa only [ordE, hk] using this

end Go.Proofs.YtocfocjnnjdcgaaDoor
