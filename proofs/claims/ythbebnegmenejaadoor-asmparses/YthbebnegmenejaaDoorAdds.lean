/-
  What the program's small readers do: a line of one number, of many; how many numbers an order has; an order of its numbers.
-/
import Derived.Test.YthbebnegmenejaaDoorState
import Derived.Test.YthbebnegmenejaaDoorCheckR1
namespace Go.Proofs.YthbebnegmenejaaDoor
open Go.RowKit

def cnt3 (x y z : Int) : Int := if x = 0 then 0 else if y = 0 then 1 else if z = 0 then 2 else 3
theorem cnt3_ks {op x y z : Int} (h : kd op = some (x, y, z)) : cnt3 x y z = (ks op).size := by
  rcases op_cases op with h1 | rfl | rfl | rfl | rfl | rfl | rfl | rfl | rfl | rfl | rfl | rfl | rfl | rfl | rfl | rfl | rfl | rfl | rfl
  · rw [kd_out h1] at h; cases h
  all_goals
    simp only [kd] at h
    simp at h
    obtain ⟨rfl, rfl, rfl⟩ := h
    decide

set_option maxHeartbeats 800000 in
theorem count_any (N : ByteArray) (x y z : Int) (r : Int) (HR : Hid (cnt3 x y z = r)) (w : World) :
    Calls Tryd.prog 22 #[.agg #[.string N, .int .i64 x, .int .i64 y, .int .i64 z]] w fun e w' => e = .returned (.int .i64 r) ∧ Below w.heap.size w w' := by
  go_enter Tryd.func22, Tryd.ntmps22
  go_wp2
  go_loop [3] (fun i => ∃ q : Int, (0 ≤ q ∧ q ≤ 3) ∧ i = .int .i64 q ∧ (0 < q → x ≠ 0) ∧ (1 < q → y ≠ 0) ∧ (2 < q → z ≠ 0)) (fun i => 3 - (intOf i).toNat)
  case atStart => exact ⟨0, by omega, rfl, by omega, by omega, by omega⟩
  case round =>
    obtain ⟨q, hq, rfl, hx, hy, hz⟩ := hrel
    have HX := Hid.out (p := Hid _) hx
    have HY := Hid.out (p := Hid _) hy
    have HZ := Hid.out (p := Hid _) hz
    clear hx hy hz
    rcases (by omega : q = 0 ∨ q = 1 ∨ q = 2 ∨ q = 3) with rfl | rfl | rfl | rfl
    · by_cases h : x = 0
      · have h' : (x != 0) = false := by simpa using h
        have HH : Hid (x = 0) := h
        clear h
        go_wp2
        go_ret
        exact ⟨ret_int (by rw [← HR.out]; simp [cnt3, HH.out]), (Below.refl _ _).alloc (Nat.le_refl _) _⟩
      · have h' : (x != 0) = true := by simpa using h
        have HH : Hid (¬ x = 0) := h
        clear h
        go_wp2
        go_round
        case rel => exact ⟨1, by omega, by go_num, fun _ => HH.out, by omega, by omega⟩
        case measure => simp [intOf]
    · by_cases h : y = 0
      · have h' : (y != 0) = false := by simpa using h
        have HH : Hid (y = 0) := h
        clear h
        go_wp2
        go_ret
        exact ⟨ret_int (by rw [← HR.out]; simp [cnt3, HH.out, HX.out (by omega)]), (Below.refl _ _).alloc (Nat.le_refl _) _⟩
      · have h' : (y != 0) = true := by simpa using h
        have HH : Hid (¬ y = 0) := h
        clear h
        go_wp2
        go_round
        case rel => exact ⟨2, by omega, by go_num, fun _ => HX.out (by omega), fun _ => HH.out, by omega⟩
        case measure => simp [intOf]
    · by_cases h : z = 0
      · have h' : (z != 0) = false := by simpa using h
        have HH : Hid (z = 0) := h
        clear h
        go_wp2
        go_ret
        exact ⟨ret_int (by rw [← HR.out]; simp [cnt3, HH.out, HX.out (by omega), HY.out (by omega)]), (Below.refl _ _).alloc (Nat.le_refl _) _⟩
      · have h' : (z != 0) = true := by simpa using h
        have HH : Hid (¬ z = 0) := h
        clear h
        go_wp2
        go_round
        case rel => exact ⟨3, by omega, by go_num, fun _ => HX.out (by omega), fun _ => HY.out (by omega), fun _ => HH.out⟩
        case measure => simp [intOf]
    · go_wp2
      go_ret
      exact ⟨ret_int (by rw [← HR.out]; simp [cnt3, HX.out (by omega), HY.out (by omega), HZ.out (by omega)]), (Below.refl _ _).alloc (Nat.le_refl _) _⟩

set_option maxHeartbeats 400000 in
theorem orderOf_any (op a b c : Int) (w : World) :
    Calls Tryd.prog 49 #[.int .i64 op, ints3 a b c] w fun e w' => e = .returned (ints4 op a b c) ∧ Below w.heap.size w w' := by
  go_enter Tryd.func49, Tryd.ntmps49
  go_wp2
  exact bodyPost_ret (v := ints4 op a b c) (by simp [results, Tryd.results49, go_sem]) rfl ⟨rfl, ((Below.refl _ _).alloc (Nat.le_refl _) _).alloc (by simp) _⟩

set_option maxHeartbeats 400000 in
theorem many_yes (s : ByteArray) (v : Value) (w : World) :
    Calls Tryd.prog 39 #[.string s, .string s, v] w fun e w' => e = .returned (.tuple #[v, .nilIface]) ∧ w' = w := by
  have h : (s.toList == s.toList) = true := by simp
  go_enter Tryd.func39, Tryd.ntmps39
  go_wp2
  go_ret2
  exact ⟨rfl, rfl⟩
set_option maxHeartbeats 400000 in
theorem many_no (s t : ByteArray) (h : (s.toList == t.toList) = false) (v : Value) (te : TypeId) (ep : Value) (w : World) (he : w.cell? ⟨0, 0, none⟩ = some (.iface te ep)) :
    Calls Tryd.prog 39 #[.string s, .string t, v] w fun e w' => e = .returned (.tuple #[nilS, .iface te ep]) ∧ Below w.heap.size w w' := by
  go_enter Tryd.func39, Tryd.ntmps39
  go_wp2
  go_quiet (fail)
  go_wp2
  go_ret2
  exact ⟨rfl, below_drewN (Below.refl _ _) _⟩

set_option maxHeartbeats 400000 in
theorem single_yes (s : ByteArray) (g cap : Nat) (x : Int) (w : World) (hx : w.cell? ⟨g, 0, none⟩ = some (.int .i64 x)) :
    Calls Tryd.prog 40 #[.string s, .string s, .slice (some ⟨g, 0, none⟩) 1 cap] w fun e w' => e = .returned (.tuple #[.int .i64 x, .nilIface]) ∧ w' = w := by
  have h : (s.toList == s.toList) = true := by simp
  go_enter Tryd.func40, Tryd.ntmps40
  go_wp2
  go_ret2
  exact ⟨rfl, rfl⟩
set_option maxHeartbeats 400000 in
theorem single_no (s t : ByteArray) (a : Option Addr) (n cap : Nat) (h : (s.toList == t.toList) = false ∨ (s.toList == t.toList) = true ∧ ((n : Int) == 1) = false) (te : TypeId) (ep : Value) (w : World) (he : w.cell? ⟨0, 0, none⟩ = some (.iface te ep)) :
    Calls Tryd.prog 40 #[.string s, .string t, .slice a n cap] w fun e w' => e = .returned (.tuple #[.int .i64 0, .iface te ep]) ∧ Below w.heap.size w w' := by
  rcases h with h | ⟨h, h1⟩
  all_goals
    go_enter Tryd.func40, Tryd.ntmps40
    go_wp2
    go_quiet (fail)
    go_wp2
    go_ret2
    exact ⟨rfl, below_drewN (Below.refl _ _) _⟩

end Go.Proofs.YthbebnegmenejaaDoor
