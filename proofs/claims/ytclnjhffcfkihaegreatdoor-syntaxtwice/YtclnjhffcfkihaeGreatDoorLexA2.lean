/-
  The program's take: over all bytes that go on.
-/
import Derived.Test.YtclnjhffcfkihaeGreatDoorLexZ1
import Derived.Test.YtclnjhffcfkihaeGreatDoorSynF2
namespace Go.Proofs.YtclnjhffcfkihaeGreatDoor
open Go.RowKit

def atOf (w : World) (sb : Nat) : Nat := match w.cell? ⟨sb, 1, none⟩ with
  | some (.int _ i) => i.toNat
  | _ => 0
theorem Sc.at {w : World} {sb : Nat} {s : ByteArray} {k : Nat} (h : Sc w sb s k) : atOf w sb = k := by
  unfold atOf; rw [h.c1]; simp

set_option maxRecDepth 100000 in
set_option maxHeartbeats 1600000 in
theorem take_dig (sb : Nat) (s : ByteArray) (hs : s.size ≤ 4000) (k : Nat) (hk : k ≤ s.size) (N : Nat) (HN : Hid (k + twAt isDig s k = N)) (w : World) (h : Sc w sb s k) :
    Calls Tryz.prog 108 #[.pointer (some ⟨sb, 0, none⟩), .func (.func 84) #[] #[]] w fun e w' => e = .returned (.string (s.extract k N)) ∧ Sc w' sb s N ∧ w.grownBy w' (some sb) := by
  have HS := Hid.out (p := Hid _) h
  have h0 := h.c0
  have h1 := h.c1
  clear h
  go_enter Tryz.func108, Tryz.ntmps108
  go_wp2
  clear h0 h1
  obtain ⟨W, rfl⟩ : ∃ V, V = w := ⟨_, rfl⟩
  go_loopw [10] (fun _ wr => ∃ j : Nat, k ≤ j ∧ j ≤ s.size ∧ Hid (j + twAt isDig s j = N) ∧ Hid (Sc wr sb s j ∧ W.grownBy wr (some sb))) (fun _ wr => s.size - atOf wr sb)
  case atStart => exact ⟨k, Nat.le_refl _, hk, HN, ⟨HS.out, World.grownBy.refl _ _⟩⟩
  case round =>
    obtain ⟨j, hj1, hj2, HJ, HW⟩ := hrel
    have h0 := HW.out.1.c0
    have h1 := HW.out.1.c1
    have hf := HW.out.1.fr
    by_cases hlt : j < s.size
    · have hlt' : (j : Int) < (s.size : Int) := by omega
      cases hd : isDig s[j] with
      | true =>
        have HJ2 : Hid (j + 1 + twAt isDig s (j + 1) = N) := by
          have := HJ.out
          rw [twAt_more hlt hd] at this
          show _ = _
          omega
        have HW2 : Hid (Sc (wr.setCell ⟨sb, 1, none⟩ (.int .i64 ((j : Int) + 1))).drew sb s (j + 1) ∧ W.grownBy (wr.setCell ⟨sb, 1, none⟩ (.int .i64 ((j : Int) + 1))).drew (some sb)) :=
          ⟨(HW.out.1.set (j + 1)).below (Below.refl _ _).drew, grown_then HW.out.2 (grown_then (grown_set _ _ _ _) (grown_of_below (Below.refl _ _).drew _))⟩
        have ha : atOf wr sb = j := HW.out.1.at
        go_wp2_with fail
        refine region_tail 21 (by kernel_rfl) (by kernel_rfl) ?_
        simp only [List.take_succ_cons, List.take_zero, List.drop_succ_cons, List.drop_zero]
        repeat still_step
        refine wpStill_nil ?_
        go_wp2_with fail
        refine Calls.mono (pdig_any s[j] _) ?_
        rintro e w' ⟨rfl, rfl⟩
        rw [hd]
        go_wp2_with fail
        go_roundw
        case rel => exact ⟨j + 1, by omega, by omega, HJ2, HW2⟩
        case measure => rw [HW2.out.1.at, ha]; omega
      | false =>
        have HJN : Hid (j = N) := by
          have := HJ.out
          rw [twAt_stop hlt hd] at this
          show _ = _
          omega
        go_wp2_with fail
        refine region_tail 21 (by kernel_rfl) (by kernel_rfl) ?_
        simp only [List.take_succ_cons, List.take_zero, List.drop_succ_cons, List.drop_zero]
        repeat still_step
        refine wpStill_nil ?_
        go_wp2_with fail
        refine Calls.mono (pdig_any s[j] _) ?_
        rintro e w' ⟨rfl, rfl⟩
        rw [hd]
        go_wp2_with fail
        have hle1 : (k : Int) ≤ (j : Int) := by omega
        have hle2 : (j : Int) ≤ (s.size : Int) := by omega
        go_quiet (fail)
        go_wp2
        go_ret
        obtain rfl := HJN.out
        exact ⟨rfl, HW.out.1.below (below_drewN (Below.refl _ _).drew), grown_then HW.out.2 (grown_of_below (below_drewN (Below.refl _ _).drew) _)⟩
    · have hlt' : decide ((j : Int) < (s.size : Int)) = false := by simpa using hlt
      have HJN : Hid (j = N) := by
        have := HJ.out
        rw [twAt_end (by omega)] at this
        show _ = _
        omega
      go_wp2_with fail
      go_quiet (fail)
      go_wp2_with fail
      have hle1 : (k : Int) ≤ (j : Int) := by omega
      have hle2 : (j : Int) ≤ (s.size : Int) := by omega
      go_quiet (fail)
      go_wp2
      go_ret
      obtain rfl := HJN.out
      exact ⟨rfl, HW.out.1.below (below_drewN (below_drewN (Below.refl _ _))), grown_then HW.out.2 (grown_of_below (below_drewN (below_drewN (Below.refl _ _))) _)⟩

theorem pnam_any (c : UInt8) (w : World) :
    Calls Tryz.prog 110 #[.int .u8 (c.toNat : Int)] w fun e w' => e = .returned (.bool (isNam c)) ∧ w' = w := by
  cases hl : isLet c
  all_goals cases hd : isDig c
  all_goals
    go_enter Tryz.func110, Tryz.ntmps110
    go_wp2_with (first | (go_at_call 82; refine (plet_any c _).mono ?_; rintro e w' ⟨rfl, rfl⟩; rw [hl]) | (go_at_call 84; refine (pdig_any c _).mono ?_; rintro e w' ⟨rfl, rfl⟩; rw [hd]))
    go_ret
    exact ⟨ret_bool (by simp [isNam, hl, hd]), rfl⟩

set_option maxRecDepth 100000 in
set_option maxHeartbeats 1600000 in
theorem take_nam (sb : Nat) (s : ByteArray) (hs : s.size ≤ 4000) (k : Nat) (hk : k ≤ s.size) (N : Nat) (HN : Hid (k + twAt isNam s k = N)) (w : World) (h : Sc w sb s k) :
    Calls Tryz.prog 108 #[.pointer (some ⟨sb, 0, none⟩), .func (.func 110) #[] #[]] w fun e w' => e = .returned (.string (s.extract k N)) ∧ Sc w' sb s N ∧ w.grownBy w' (some sb) := by
  have HS := Hid.out (p := Hid _) h
  have h0 := h.c0
  have h1 := h.c1
  clear h
  go_enter Tryz.func108, Tryz.ntmps108
  go_wp2
  clear h0 h1
  obtain ⟨W, rfl⟩ : ∃ V, V = w := ⟨_, rfl⟩
  go_loopw [10] (fun _ wr => ∃ j : Nat, k ≤ j ∧ j ≤ s.size ∧ Hid (j + twAt isNam s j = N) ∧ Hid (Sc wr sb s j ∧ W.grownBy wr (some sb))) (fun _ wr => s.size - atOf wr sb)
  case atStart => exact ⟨k, Nat.le_refl _, hk, HN, ⟨HS.out, World.grownBy.refl _ _⟩⟩
  case round =>
    obtain ⟨j, hj1, hj2, HJ, HW⟩ := hrel
    have h0 := HW.out.1.c0
    have h1 := HW.out.1.c1
    have hf := HW.out.1.fr
    by_cases hlt : j < s.size
    · have hlt' : (j : Int) < (s.size : Int) := by omega
      cases hd : isNam s[j] with
      | true =>
        have HJ2 : Hid (j + 1 + twAt isNam s (j + 1) = N) := by
          have := HJ.out
          rw [twAt_more hlt hd] at this
          show _ = _
          omega
        have HW2 : Hid (Sc (wr.setCell ⟨sb, 1, none⟩ (.int .i64 ((j : Int) + 1))).drew sb s (j + 1) ∧ W.grownBy (wr.setCell ⟨sb, 1, none⟩ (.int .i64 ((j : Int) + 1))).drew (some sb)) :=
          ⟨(HW.out.1.set (j + 1)).below (Below.refl _ _).drew, grown_then HW.out.2 (grown_then (grown_set _ _ _ _) (grown_of_below (Below.refl _ _).drew _))⟩
        have ha : atOf wr sb = j := HW.out.1.at
        go_wp2_with fail
        refine region_tail 21 (by kernel_rfl) (by kernel_rfl) ?_
        simp only [List.take_succ_cons, List.take_zero, List.drop_succ_cons, List.drop_zero]
        repeat still_step
        refine wpStill_nil ?_
        go_wp2_with fail
        refine Calls.mono (pnam_any s[j] _) ?_
        rintro e w' ⟨rfl, rfl⟩
        rw [hd]
        go_wp2_with fail
        go_roundw
        case rel => exact ⟨j + 1, by omega, by omega, HJ2, HW2⟩
        case measure => rw [HW2.out.1.at, ha]; omega
      | false =>
        have HJN : Hid (j = N) := by
          have := HJ.out
          rw [twAt_stop hlt hd] at this
          show _ = _
          omega
        go_wp2_with fail
        refine region_tail 21 (by kernel_rfl) (by kernel_rfl) ?_
        simp only [List.take_succ_cons, List.take_zero, List.drop_succ_cons, List.drop_zero]
        repeat still_step
        refine wpStill_nil ?_
        go_wp2_with fail
        refine Calls.mono (pnam_any s[j] _) ?_
        rintro e w' ⟨rfl, rfl⟩
        rw [hd]
        go_wp2_with fail
        have hle1 : (k : Int) ≤ (j : Int) := by omega
        have hle2 : (j : Int) ≤ (s.size : Int) := by omega
        go_quiet (fail)
        go_wp2
        go_ret
        obtain rfl := HJN.out
        exact ⟨rfl, HW.out.1.below (below_drewN (Below.refl _ _).drew), grown_then HW.out.2 (grown_of_below (below_drewN (Below.refl _ _).drew) _)⟩
    · have hlt' : decide ((j : Int) < (s.size : Int)) = false := by simpa using hlt
      have HJN : Hid (j = N) := by
        have := HJ.out
        rw [twAt_end (by omega)] at this
        show _ = _
        omega
      go_wp2_with fail
      go_quiet (fail)
      go_wp2_with fail
      have hle1 : (k : Int) ≤ (j : Int) := by omega
      have hle2 : (j : Int) ≤ (s.size : Int) := by omega
      go_quiet (fail)
      go_wp2
      go_ret
      obtain rfl := HJN.out
      exact ⟨rfl, HW.out.1.below (below_drewN (below_drewN (Below.refl _ _))), grown_then HW.out.2 (grown_of_below (below_drewN (below_drewN (Below.refl _ _))) _)⟩

end Go.Proofs.YtclnjhffcfkihaeGreatDoor
