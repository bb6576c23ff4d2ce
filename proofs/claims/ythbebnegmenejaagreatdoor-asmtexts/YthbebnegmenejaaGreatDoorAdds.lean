/-
  What the program's small readers do: a line of one number, of many; how many numbers an order has; an order of its numbers.
-/
import Derived.Test.YthbebnegmenejaaGreatDoorState
import Derived.Test.YthbebnegmenejaaGreatDoorCount
import Derived.Test.YthbebnegmenejaaGreatDoorCheckR1
namespace Go.Proofs.YthbebnegmenejaaGreatDoor
open Go.RowKit

set_option maxHeartbeats 400000 in
theorem orderOf_any (op a b c : Int) (w : World) :
    Calls Tryz.prog 49 #[.int .i64 op, ints3 a b c] w fun e w' => e = .returned (ints4 op a b c) ∧ Below w.heap.size w w' := by
  go_enter Tryz.func49, Tryz.ntmps49
  go_wp2
  exact bodyPost_ret (v := ints4 op a b c) (by simp [results, Tryz.results49, go_sem]) rfl ⟨rfl, ((Below.refl _ _).alloc (Nat.le_refl _) _).alloc (by simp) _⟩

set_option maxHeartbeats 400000 in
theorem many_yes (s : ByteArray) (v : Value) (w : World) :
    Calls Tryz.prog 40 #[.string s, .string s, v] w fun e w' => e = .returned (.tuple #[v, .nilIface]) ∧ w' = w := by
  have h : (s.toList == s.toList) = true := by simp
  go_enter Tryz.func40, Tryz.ntmps40
  go_wp2
  go_ret2
  exact ⟨rfl, rfl⟩
set_option maxHeartbeats 400000 in
theorem many_no (s t : ByteArray) (h : (s.toList == t.toList) = false) (v : Value) (te : TypeId) (ep : Value) (w : World) (he : w.cell? ⟨0, 0, none⟩ = some (.iface te ep)) :
    Calls Tryz.prog 40 #[.string s, .string t, v] w fun e w' => e = .returned (.tuple #[nilS, .iface te ep]) ∧ Below w.heap.size w w' := by
  go_enter Tryz.func40, Tryz.ntmps40
  go_wp2
  go_quiet (fail)
  go_wp2
  go_ret2
  exact ⟨rfl, below_drewN (Below.refl _ _) _⟩

set_option maxHeartbeats 400000 in
theorem single_yes (s : ByteArray) (g cap : Nat) (x : Int) (w : World) (hx : w.cell? ⟨g, 0, none⟩ = some (.int .i64 x)) :
    Calls Tryz.prog 41 #[.string s, .string s, .slice (some ⟨g, 0, none⟩) 1 cap] w fun e w' => e = .returned (.tuple #[.int .i64 x, .nilIface]) ∧ w' = w := by
  have h : (s.toList == s.toList) = true := by simp
  go_enter Tryz.func41, Tryz.ntmps41
  go_wp2
  go_ret2
  exact ⟨rfl, rfl⟩
set_option maxHeartbeats 400000 in
theorem single_no (s t : ByteArray) (a : Option Addr) (n cap : Nat) (h : (s.toList == t.toList) = false ∨ (s.toList == t.toList) = true ∧ ((n : Int) == 1) = false) (te : TypeId) (ep : Value) (w : World) (he : w.cell? ⟨0, 0, none⟩ = some (.iface te ep)) :
    Calls Tryz.prog 41 #[.string s, .string t, .slice a n cap] w fun e w' => e = .returned (.tuple #[.int .i64 0, .iface te ep]) ∧ Below w.heap.size w w' := by
  rcases h with h | ⟨h, h1⟩
  all_goals
    go_enter Tryz.func41, Tryz.ntmps41
    go_wp2
    go_quiet (fail)
    go_wp2
    go_ret2
    exact ⟨rfl, below_drewN (Below.refl _ _) _⟩

end Go.Proofs.YthbebnegmenejaaGreatDoor
