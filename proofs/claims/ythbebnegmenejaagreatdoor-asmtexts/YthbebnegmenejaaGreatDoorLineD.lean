/-
  What the program's readLine does with an order's line; with any line.
-/
import Derived.Test.YthbebnegmenejaaGreatDoorLineC
import Derived.Test.YthbebnegmenejaaGreatDoorAddN
namespace Go.Proofs.YthbebnegmenejaaGreatDoor
open Go.RowKit

set_option maxRecDepth 100000 in
set_option maxHeartbeats 1600000 in
theorem readLine_tail (k : Int) (h0 : (k == 0) = false) (h1 : (k == 1) = false) (h2 : (k == 2) = false) (pb : Nat) (s : ByteArray) (hs : s.size ≤ 4000) (vs : List Int) (HN : Hid (numsOf s.data.toList = some vs)) (HM : Hid (¬ (nameL s.data.toList = [116, 104, 114, 101, 97, 100] ∧ vs = []))) (te : TypeId) (ep : Value) (w : World) (hE : Env w te ep) (Q : Value → World → Prop)
    (HQ : ∀ (nm : ByteArray) va vc w1, Hid (nm.data.toList = nameL s.data.toList) → Below w.heap.size w w1 → w1.ownsRow w.heap.size 3 1 (.slice va vs.length vc) vs.length (vs.map (Value.int .i64)) → Calls Tryz.prog 42 #[.pointer (some ⟨pb, 0, none⟩), .string nm, .slice va vs.length vc] w1 fun e w' => ∃ v, e = .returned v ∧ Q v w') :
    Calls Tryz.prog 32 #[.pointer (some ⟨pb, 0, none⟩), .int .i64 k, .string s] w fun e w' => ∃ v, e = .returned v ∧ Q v w' := by
  by_cases hc : nameL s.data.toList = [116, 104, 114, 101, 97, 100]
  · have HC : Hid (nameL s.data.toList = [116, 104, 114, 101, 97, 100]) := hc
    have hv : ((vs.length : Int) == 0) = false := by
      have : vs ≠ [] := fun e => HM.out ⟨hc, e⟩
      cases vs with
      | nil => exact absurd rfl this
      | cons a r => simp; omega
    clear hc
    go_enter Tryz.func32, Tryz.ntmps32
    go_wp2_with (first | (go_at_call 39; refine (splitLine_any s hs te ep _ hE).mono ?_; rintro e w1 ⟨hL, hb1⟩; unfold LineP at hL; rw [HN.out] at hL; obtain ⟨nm, v, hnm, rfl, hown⟩ := hL; have HNM := Hid.out (p := Hid _) hnm; rw [HC.out] at hnm; obtain rfl := str_of hnm; clear hnm; obtain ⟨va, vc, rfl⟩ := owns_slice hown) | (go_at_call 42; refine (HQ _ va vc _ HNM hb1 hown).mono ?_; rintro e w2 ⟨u, rfl, hq⟩))
    go_ret
    exact ⟨_, rfl, hq⟩
  · have HC : Hid (¬ nameL s.data.toList = [116, 104, 114, 101, 97, 100]) := hc
    clear hc
    go_enter Tryz.func32, Tryz.ntmps32
    go_wp2_with (first | (go_at_call 39; refine (splitLine_any s hs te ep _ hE).mono ?_; rintro e w1 ⟨hL, hb1⟩; unfold LineP at hL; rw [HN.out] at hL; obtain ⟨nm, v, hnm, rfl, hown⟩ := hL; have HNM := Hid.out (p := Hid _) hnm; have hne : (nm.toList == [116, 104, 114, 101, 97, 100]) = false := (by rw [Lib.toList_data, hnm]; simpa using HC.out); clear hnm; obtain ⟨va, vc, rfl⟩ := owns_slice hown) | (go_at_call 42; refine (HQ _ va vc _ HNM hb1 hown).mono ?_; rintro e w2 ⟨u, rfl, hq⟩))
    go_ret
    exact ⟨_, rfl, hq⟩

end Go.Proofs.YthbebnegmenejaaGreatDoor
