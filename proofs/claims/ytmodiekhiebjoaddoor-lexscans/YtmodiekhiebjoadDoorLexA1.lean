/-
  The program's scanner in memory; whether the byte that is next can stand.
-/
import Derived.Test.YtmodiekhiebjoadDoorLexZ2
import Derived.Deep.QuietTactic
import Derived.BigQuiet
namespace Go.Proofs.YtmodiekhiebjoadDoor
open Go.RowKit

/-- A scanner: its text, the byte that is next. -/
def Sc (w : World) (sb : Nat) (s : ByteArray) (k : Nat) : Prop := w.heap[sb]? = some (.cells #[.string s, .int .i64 (k : Int)] 38)
section
variable {w w' : World} {sb : Nat} {s : ByteArray} {k : Nat}
theorem Sc.c0 (h : Sc w sb s k) : w.cell? ⟨sb, 0, none⟩ = some (.string s) := box_cell h rfl
theorem Sc.c1 (h : Sc w sb s k) : w.cell? ⟨sb, 1, none⟩ = some (.int .i64 (k : Int)) := box_cell h rfl
theorem Sc.fr (h : Sc w sb s k) (i : Nat) : w.frozen? ⟨sb, i, none⟩ = false := box_free h
theorem Sc.lt (h : Sc w sb s k) : sb < w.heap.size := by
  rcases Nat.lt_or_ge sb w.heap.size with h1 | h1
  · exact h1
  · unfold Sc at h
    rw [Array.getElem?_eq_none h1] at h; cases h
theorem Sc.below (h : Sc w sb s k) (hb : Below w.heap.size w w') : Sc w' sb s k := (hb.block _ h.lt).trans h
theorem Sc.grown (h : Sc w sb s k) {row : Option Nat} (hb : w.grownBy w' row) (hr : some sb ≠ row) : Sc w' sb s k := (hb.block _ h.lt hr).trans h
theorem Sc.set (h : Sc w sb s k) (j : Nat) : Sc (w.setCell ⟨sb, 1, none⟩ (.int .i64 (j : Int))) sb s j := by
  unfold Sc at h ⊢
  simp only [World.setCell, Array.getElem?_modify, if_true, h, Option.map_some]
  rfl
theorem grown_of_below (h : Below w.heap.size w w') (row : Option Nat) : w.grownBy w' row := ⟨h.os, h.tape, h.output, h.size, fun i hi _ => h.block i hi⟩
theorem grown_set (W : World) (b i : Nat) (v : Value) : W.grownBy (W.setCell ⟨b, i, none⟩ v) (some b) :=
  ⟨rfl, rfl, rfl, by simp [World.setCell], fun j _ hj => Below.heap_setCell _ _ _ _ (fun e => hj (by rw [e]))⟩
theorem grown_then {a b c : World} {row : Option Nat} (h : a.grownBy b row) (k : b.grownBy c row) : a.grownBy c row :=
  ⟨k.os.trans h.os, k.tape.trans h.tape, k.output.trans h.output, Nat.le_trans h.size k.size, fun i hi hr => (k.block i (Nat.lt_of_lt_of_le hi h.size) hr).trans (h.block i hi hr)⟩
end

/-- What is given up with. -/
def badB (k : Nat) : List PanicEntry := [{ v := .iface 35 (.int .i64 (k : Int)), recovered := false }]
def badT (k : Nat) : List PanicEntry := [{ v := .iface 36 (.int .i64 (k : Int)), recovered := false }]

set_option maxHeartbeats 1600000 in
theorem ask_yes (sb : Nat) (s : ByteArray) (k : Nat) (hk : k < s.size) (hc : canBe s[k] = true) (w : World) (h : Sc w sb s k) :
    Calls Tryd.prog 21 #[.pointer (some ⟨sb, 0, none⟩)] w fun e w' => e = .returned (.tuple #[]) ∧ ∃ m, w' = w.drewN m := by
  have h0 := h.c0
  have h1 := h.c1
  clear h
  cases hb : isBlk s[k] with
  | true =>
    go_enter Tryd.func21, Tryd.ntmps21
    go_wp2_with fail
    go_quiet (fail)
    go_wp2_with (first | (go_at_call 18; refine (pblk_any s[k] _).mono ?_; rintro e w' ⟨rfl, rfl⟩; rw [hb]))
    all_goals (go_end0; exact ⟨rfl, _, rfl⟩)
  | false =>
    have hd1 : 32 ≤ (s[k].toNat : Int) := by simp [canBe, hb] at hc; omega
    have hd2 : (s[k].toNat : Int) ≤ 126 := by simp [canBe, hb] at hc; omega
    go_enter Tryd.func21, Tryd.ntmps21
    go_wp2_with fail
    go_quiet (fail)
    go_wp2_with (first | (go_at_call 18; refine (pblk_any s[k] _).mono ?_; rintro e w' ⟨rfl, rfl⟩; rw [hb]))
    go_end0
    exact ⟨rfl, _, rfl⟩

set_option maxHeartbeats 1600000 in
theorem ask_no (sb : Nat) (s : ByteArray) (k : Nat) (hk : k < s.size) (hc : canBe s[k] = false) (w : World) (h : Sc w sb s k) :
    Calls Tryd.prog 21 #[.pointer (some ⟨sb, 0, none⟩)] w fun e w' => e = .panicked (badB k) ∧ Below w.heap.size w w' := by
  have h0 := h.c0
  have h1 := h.c1
  clear h
  have hb : isBlk s[k] = false := by
    cases hb : isBlk s[k] with
    | true => simp [canBe, hb] at hc
    | false => rfl
  by_cases hd : (s[k].toNat : Int) < 32
  · go_enter Tryd.func21, Tryd.ntmps21
    go_wp2_with fail
    go_quiet (fail)
    go_wp2_with (first | (go_at_call 18; refine (pblk_any s[k] _).mono ?_; rintro e w' ⟨rfl, rfl⟩; rw [hb]))
    exact ⟨rfl, rfl, below_drewN (Below.refl _ _)⟩
  · have hd2 : 126 < (s[k].toNat : Int) := by simp [canBe, hb] at hc; omega
    go_enter Tryd.func21, Tryd.ntmps21
    go_wp2_with fail
    go_quiet (fail)
    go_wp2_with (first | (go_at_call 18; refine (pblk_any s[k] _).mono ?_; rintro e w' ⟨rfl, rfl⟩; rw [hb]))
    exact ⟨rfl, rfl, below_drewN (Below.refl _ _)⟩

end Go.Proofs.YtmodiekhiebjoadDoor
