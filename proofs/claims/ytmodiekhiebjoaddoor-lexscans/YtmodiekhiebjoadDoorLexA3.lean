/-
  The program's notes.
-/
import Derived.Test.YtmodiekhiebjoadDoorLexA2
namespace Go.Proofs.YtmodiekhiebjoadDoor
open Go.RowKit

set_option maxHeartbeats 800000 in
theorem note1_yes (nb sb : Nat) (s : ByteArray) (k : Nat) (hk : k < s.size) (hc : canBe s[k] = true) (w : World) (h : Sc w sb s k) (hn : w.cell? ⟨nb, 0, none⟩ = some (.pointer (some ⟨sb, 0, none⟩))) :
    Calls Tryd.prog 29 #[.int .u8 (s[k].toNat : Int), .pointer (some ⟨nb, 0, none⟩)] w fun e w' => e = .returned (.bool ((s[k].toNat : Int) != 10)) ∧ ∃ m, w' = w.drewN m := by
  go_enter Tryd.func29, Tryd.ntmps29
  go_wp2_with (first | (go_at_call 21; refine (ask_yes sb s k hk hc _ h).mono ?_; rintro e w' ⟨rfl, m, rfl⟩))
  go_ret
  exact ⟨rfl, _, rfl⟩
set_option maxHeartbeats 800000 in
theorem note1_no (nb sb : Nat) (s : ByteArray) (k : Nat) (hk : k < s.size) (hc : canBe s[k] = false) (w : World) (h : Sc w sb s k) (hn : w.cell? ⟨nb, 0, none⟩ = some (.pointer (some ⟨sb, 0, none⟩))) :
    Calls Tryd.prog 29 #[.int .u8 (s[k].toNat : Int), .pointer (some ⟨nb, 0, none⟩)] w fun e w' => e = .panicked (badB k) ∧ Below w.heap.size w w' := by
  go_enter Tryd.func29, Tryd.ntmps29
  go_wp2_with (first | (go_at_call 21; refine (ask_no sb s k hk hc _ h).mono ?_; rintro e w' ⟨rfl, hb⟩))
  exact ⟨rfl, rfl, hb⟩


theorem skAt_over {s : ByteArray} {j : Nat} (h : j < s.size) (hc : canBe s[j] = true) (hn : ((s[j].toNat : Int) != 10) = true) : skAt s true j = skAt s true (j + 1) := by
  rw [skAt_note h hc]
  congr 1
  simp at hn ⊢
  omega
theorem skAt_line {s : ByteArray} {j : Nat} (h : j < s.size) (hc : canBe s[j] = true) (hn : ((s[j].toNat : Int) != 10) = false) : skAt s true j = skAt s false j := by
  have h10 : s[j].toNat = 10 := by simp at hn; omega
  rw [skAt_note h hc, skAt_blk h hc (by simp [isBlk, h10])]
  congr 1
  simp [h10]

/-- What becomes of a note. -/
def NoteQ (W : World) (sb : Nat) (s : ByteArray) (k E : Nat) (B : Bool) (e : Ending) (w' : World) : Prop :=
  W.grownBy w' (some sb) ∧ ((∃ v, e = .returned v ∧ ∃ j, k ≤ j ∧ j ≤ s.size ∧ (∀ h : k < s.size, ((s[k].toNat : Int) != 10) = true → k < j) ∧ Sc w' sb s j ∧ skAt s false j = (E, B)) ∨ (e = .panicked (badB E) ∧ B = true))

set_option maxHeartbeats 1600000 in
theorem take_note (nb sb : Nat) (s : ByteArray) (hs : s.size ≤ 4000) (k : Nat) (hk : k ≤ s.size) (E : Nat) (B : Bool) (HE : Hid (skAt s true k = (E, B))) (w : World) (h : Sc w sb s k) (hn : w.cell? ⟨nb, 0, none⟩ = some (.pointer (some ⟨sb, 0, none⟩))) (hne : nb ≠ sb) :
    Calls Tryd.prog 28 #[.pointer (some ⟨sb, 0, none⟩), .func (.func 29) #[] #[.pointer (some ⟨nb, 0, none⟩)]] w fun e w' => NoteQ w sb s k E B e w' := by
  have HS := Hid.out (p := Hid _) h
  have HNB : Hid (∀ V, w.grownBy V (some sb) → V.cell? ⟨nb, 0, none⟩ = some (.pointer (some ⟨sb, 0, none⟩))) := fun V hV => hV.cell hn (by simp; exact hne)
  have h0 := h.c0
  have h1 := h.c1
  clear h hn
  go_enter Tryd.func28, Tryd.ntmps28
  go_wp2
  clear h0 h1
  obtain ⟨W, rfl⟩ : ∃ V, V = w := ⟨_, rfl⟩
  go_loopw [10] (fun _ wr => ∃ j : Nat, k ≤ j ∧ j ≤ s.size ∧ Hid (skAt s true j = (E, B)) ∧ Hid (Sc wr sb s j ∧ W.grownBy wr (some sb))) (fun _ wr => s.size - atOf wr sb)
  case atStart => exact ⟨k, Nat.le_refl _, hk, HE, ⟨HS.out, World.grownBy.refl _ _⟩⟩
  case round =>
    obtain ⟨j, hj1, hj2, HJ, HW⟩ := hrel
    have h0 := HW.out.1.c0
    have h1 := HW.out.1.c1
    have hf := HW.out.1.fr
    by_cases hlt : j < s.size
    · have hlt' : (j : Int) < (s.size : Int) := by omega
      cases hc : canBe s[j] with
      | false =>
        have HEB : Hid (j = E ∧ B = true) := by
          have h2 := HJ.out
          rw [skAt_bad true hlt hc] at h2
          simp only [Prod.mk.injEq] at h2
          exact ⟨h2.1, h2.2.symm⟩
        go_wp2_with fail
        refine region_tail 21 (by kernel_rfl) (by kernel_rfl) ?_
        simp only [List.take_succ_cons, List.take_zero, List.drop_succ_cons, List.drop_zero]
        repeat still_step
        refine wpStill_nil ?_
        go_wp2_with fail
        refine Calls.mono (note1_no nb sb s j hlt hc _ (HW.out.1.below (Below.refl _ _).drew) (HNB.out _ (grown_then HW.out.2 (grown_of_below (Below.refl _ _).drew _)))) ?_
        rintro e w' ⟨rfl, hb⟩
        refine ⟨rfl, grown_then HW.out.2 (grown_then (grown_of_below (Below.refl _ _).drew _) (grown_of_below hb _)), Or.inr ⟨?_, HEB.out.2⟩⟩
        rw [HEB.out.1]
      | true =>
        cases hd : ((s[j].toNat : Int) != 10) with
        | true =>
          have HJ2 : Hid (skAt s true (j + 1) = (E, B)) := (skAt_over hlt hc hd).symm.trans HJ.out
          have HW2 : Hid (∀ m, Sc ((wr.drewN m).setCell ⟨sb, 1, none⟩ (.int .i64 ((j : Int) + 1))) sb s (j + 1) ∧ W.grownBy ((wr.drewN m).setCell ⟨sb, 1, none⟩ (.int .i64 ((j : Int) + 1))) (some sb)) := fun m =>
            ⟨(HW.out.1.below (below_drewN (Below.refl _ _))).set (j + 1), grown_then HW.out.2 (grown_then (grown_of_below (below_drewN (Below.refl _ _)) _) (grown_set _ _ _ _))⟩
          have ha : atOf wr sb = j := HW.out.1.at
          go_wp2_with fail
          refine region_tail 21 (by kernel_rfl) (by kernel_rfl) ?_
          simp only [List.take_succ_cons, List.take_zero, List.drop_succ_cons, List.drop_zero]
          repeat still_step
          refine wpStill_nil ?_
          go_wp2_with fail
          refine Calls.mono (note1_yes nb sb s j hlt hc _ (HW.out.1.below (Below.refl _ _).drew) (HNB.out _ (grown_then HW.out.2 (grown_of_below (Below.refl _ _).drew _)))) ?_
          rintro e w' ⟨rfl, m, rfl⟩
          rw [hd]
          go_wp2_with fail
          go_roundw
          case rel => exact ⟨j + 1, by omega, by omega, HJ2, HW2.out _⟩
          case measure => rw [(HW2.out _).1.at, ha]; omega
        | false =>
          have HJ2 : Hid (skAt s false j = (E, B)) := (skAt_line hlt hc hd).symm.trans HJ.out
          go_wp2_with fail
          refine region_tail 21 (by kernel_rfl) (by kernel_rfl) ?_
          simp only [List.take_succ_cons, List.take_zero, List.drop_succ_cons, List.drop_zero]
          repeat still_step
          refine wpStill_nil ?_
          go_wp2_with fail
          refine Calls.mono (note1_yes nb sb s j hlt hc _ (HW.out.1.below (Below.refl _ _).drew) (HNB.out _ (grown_then HW.out.2 (grown_of_below (Below.refl _ _).drew _)))) ?_
          rintro e w' ⟨rfl, m, rfl⟩
          rw [hd]
          go_wp2_with fail
          have hle1 : (k : Int) ≤ (j : Int) := by omega
          have hle2 : (j : Int) ≤ (s.size : Int) := by omega
          go_quiet (fail)
          go_wp2
          go_ret
          refine ⟨grown_then HW.out.2 (grown_of_below (below_drewN (below_drewN (Below.refl _ _))) _), Or.inl ⟨_, rfl, j, hj1, hj2, fun h hne => ?_, HW.out.1.below (below_drewN (below_drewN (Below.refl _ _))), HJ2.out⟩⟩
          rcases Nat.lt_or_eq_of_le hj1 with h2 | rfl
          · exact h2
          · rw [hd] at hne; cases hne
    · have hlt' : decide ((j : Int) < (s.size : Int)) = false := by simpa using hlt
      have HJ2 : Hid (skAt s false j = (E, B)) := by
        have h2 := HJ.out
        rw [skAt_end true (by omega)] at h2
        show _ = _
        rw [skAt_end false (by omega), h2]
      go_wp2_with fail
      go_quiet (fail)
      go_wp2_with fail
      have hle1 : (k : Int) ≤ (j : Int) := by omega
      have hle2 : (j : Int) ≤ (s.size : Int) := by omega
      go_quiet (fail)
      go_wp2
      go_ret
      exact ⟨grown_then HW.out.2 (grown_of_below (below_drewN (below_drewN (Below.refl _ _))) _), Or.inl ⟨_, rfl, j, hj1, hj2, fun h _ => by omega, HW.out.1.below (below_drewN (below_drewN (Below.refl _ _))), HJ2.out⟩⟩

set_option maxHeartbeats 800000 in
theorem note_any (sb : Nat) (s : ByteArray) (hs : s.size ≤ 4000) (k : Nat) (hk : k ≤ s.size) (E : Nat) (B : Bool) (HE : Hid (skAt s true k = (E, B))) (w : World) (h : Sc w sb s k) :
    Calls Tryd.prog 20 #[.pointer (some ⟨sb, 0, none⟩)] w fun e w' => NoteQ w sb s k E B e w' := by
  have hmf : ∀ (fn : Fn) (first cap : Array Value) (w : World), (Instr.makeFunc fn first cap).run Tryd.prog w = .ok (.func fn first cap) w := fun _ _ _ _ => rfl
  go_enter Tryd.func20, Tryd.ntmps20
  go_wp2_with fail
  have hsb := h.lt
  refine Calls.mono (take_note w.heap.size sb s hs k hk E B HE _ (h.below ((Below.refl _ _).alloc (Nat.le_refl _) _)) (box_cell (heap_alloc_new _ _) rfl) (by omega)) ?_
  rintro e w1 ⟨hg, h2⟩
  have hg2 : w.grownBy w1 (some sb) := grown_then (grown_of_below ((Below.refl _ _).alloc (Nat.le_refl _) _) _) hg
  rcases h2 with ⟨v, rfl, hj⟩ | ⟨rfl, hB⟩
  · go_wp2
    go_end0
    exact ⟨hg2, Or.inl ⟨_, rfl, hj⟩⟩
  · exact ⟨rfl, hg2, Or.inr ⟨rfl, hB⟩⟩

end Go.Proofs.YtmodiekhiebjoadDoor
