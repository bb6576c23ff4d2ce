/-
  How many numbers an order has, as the program counts them.
-/
import Derived.Test.YthbebnegmenejaaGreatDoorInProg
namespace Go.Proofs.YthbebnegmenejaaGreatDoor
open Go.RowKit

def cnt3 (x y z : Int) : Int := if x = 0 then 0 else if y = 0 then 1 else if z = 0 then 2 else 3
theorem cnt3_ks {op x y z : Int} (h : kd op = some (x, y, z)) : cnt3 x y z = (ks op).size := by
  rcases op_cases op with h1 | rfl | rfl | rfl | rfl | rfl | rfl | rfl | rfl | rfl | rfl | rfl | rfl | rfl | rfl | rfl | rfl | rfl | rfl
  · rw [kd_out h1] at h; cases h
  all_goals
    simp only [kd] at h
    simp at h
    obtain ⟨rfl, rfl, rfl⟩ := h
    decide

set_option maxHeartbeats 800000 in
theorem count_any (N : ByteArray) (x y z : Int) (r : Int) (HR : Hid (cnt3 x y z = r)) (w : World) :
    Calls Tryz.prog 14 #[.agg #[.string N, .int .i64 x, .int .i64 y, .int .i64 z]] w fun e w' => e = .returned (.int .i64 r) ∧ Below w.heap.size w w' := by
  go_enter Tryz.func14, Tryz.ntmps14
  go_wp2
  go_loop [3] (fun i => ∃ q : Int, (0 ≤ q ∧ q ≤ 3) ∧ i = .int .i64 q ∧ (0 < q → x ≠ 0) ∧ (1 < q → y ≠ 0) ∧ (2 < q → z ≠ 0)) (fun i => 3 - (intOf i).toNat)
  case atStart => exact ⟨0, by omega, rfl, by omega, by omega, by omega⟩
  case round =>
    obtain ⟨q, hq, rfl, hx, hy, hz⟩ := hrel
    have HX := Hid.out (p := Hid _) hx
    have HY := Hid.out (p := Hid _) hy
    have HZ := Hid.out (p := Hid _) hz
    clear hx hy hz
    rcases (by omega : q = 0 ∨ q = 1 ∨ q = 2 ∨ q = 3) with rfl | rfl | rfl | rfl
    · by_cases h : x = 0
      · have h' : (x != 0) = false := by simpa using h
        have HH : Hid (x = 0) := h
        clear h
        go_wp2
        go_ret
        exact ⟨ret_int (by rw [← HR.out]; simp [cnt3, HH.out]), (Below.refl _ _).alloc (Nat.le_refl _) _⟩
      · have h' : (x != 0) = true := by simpa using h
        have HH : Hid (¬ x = 0) := h
        clear h
        go_wp2
        go_round
        case rel => exact ⟨1, by omega, by go_num, fun _ => HH.out, by omega, by omega⟩
        case measure => simp [intOf]
    · by_cases h : y = 0
      · have h' : (y != 0) = false := by simpa using h
        have HH : Hid (y = 0) := h
        clear h
        go_wp2
        go_ret
        exact ⟨ret_int (by rw [← HR.out]; simp [cnt3, HH.out, HX.out (by omega)]), (Below.refl _ _).alloc (Nat.le_refl _) _⟩
      · have h' : (y != 0) = true := by simpa using h
        have HH : Hid (¬ y = 0) := h
        clear h
        go_wp2
        go_round
        case rel => exact ⟨2, by omega, by go_num, fun _ => HX.out (by omega), fun _ => HH.out, by omega⟩
        case measure => simp [intOf]
    · by_cases h : z = 0
      · have h' : (z != 0) = false := by simpa using h
        have HH : Hid (z = 0) := h
        clear h
        go_wp2
        go_ret
        exact ⟨ret_int (by rw [← HR.out]; simp [cnt3, HH.out, HX.out (by omega), HY.out (by omega)]), (Below.refl _ _).alloc (Nat.le_refl _) _⟩
      · have h' : (z != 0) = true := by simpa using h
        have HH : Hid (¬ z = 0) := h
        clear h
        go_wp2
        go_round
        case rel => exact ⟨3, by omega, by go_num, fun _ => HX.out (by omega), fun _ => HY.out (by omega), fun _ => HH.out⟩
        case measure => simp [intOf]
    · go_wp2
      go_ret
      exact ⟨ret_int (by rw [← HR.out]; simp [cnt3, HX.out (by omega), HY.out (by omega), HZ.out (by omega)]), (Below.refl _ _).alloc (Nat.le_refl _) _⟩

end Go.Proofs.YthbebnegmenejaaGreatDoor
