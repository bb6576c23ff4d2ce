/-
  The program's way to the next token.
-/
import Derived.Test.YtmodiekhiebjoadDoorLexA3
import Derived.Test.YtmodiekhiebjoadDoorShelf
namespace Go.Proofs.YtmodiekhiebjoadDoor
open Go.RowKit

theorem rest_list (s : ByteArray) (j : Nat) : (s.extract j s.size).data.toList = s.data.toList.drop j := by
  have hl : s.data.toList.length = s.size := by simp
  rw [extract_list, List.take_of_length_le (by rw [List.length_drop, hl]; exact Nat.le_refl _)]
theorem pre_two (s : ByteArray) (j : Nat) (h : j < s.size) : Lib.hasPrefix (s.extract j s.size).data.toList [47, 47] = true ↔ (s[j].toNat = 47 ∧ ∃ h : j + 1 < s.size, s[j + 1].toNat = 47) := by
  have e : ∀ c : UInt8, c = 47 ↔ c.toNat = 47 := fun c => ⟨fun h => by rw [h]; rfl, fun h => UInt8.toNat_inj.1 (by rw [h]; rfl)⟩
  rw [rest_list, drop_at s j h]
  rcases Nat.lt_or_ge (j + 1) s.size with h1 | h1
  · rw [drop_at s (j + 1) h1]
    simp only [Lib.hasPrefix, List.isPrefixOf, Bool.and_true, Bool.and_eq_true, beq_iff_eq, eq_comm (a := (47 : UInt8)), e]
    exact ⟨fun ⟨a, b⟩ => ⟨a, h1, b⟩, fun ⟨a, _, b⟩ => ⟨a, b⟩⟩
  · rw [drop_past s (j + 1) h1]
    simp only [Lib.hasPrefix, List.isPrefixOf, Bool.and_false, Bool.false_eq_true, false_iff]
    rintro ⟨_, h2, _⟩
    omega

/-- What stands at the place that the way leads to. -/
def Stand (s : ByteArray) (E : Nat) (B : Bool) : Prop := if B = true then ∃ h : E < s.size, canBe s[E] = false else ∀ h : E < s.size, canBe s[E] = true

def ToQ (W : World) (sb : Nat) (s : ByteArray) (E : Nat) (B : Bool) (e : Ending) (w' : World) : Prop :=
  W.grownBy w' (some sb) ∧ ((e = .returned (.bool (decide (E < s.size))) ∧ Sc w' sb s E ∧ Stand s E B) ∨ (e = .panicked (badB E) ∧ B = true))

set_option maxHeartbeats 1600000 in
theorem toTok_any (sb : Nat) (s : ByteArray) (hs : s.size ≤ 4000) (k : Nat) (hk : k ≤ s.size) (E : Nat) (B : Bool) (HE : Hid (skAt s false k = (E, B))) (w : World) (h : Sc w sb s k) :
    Calls Tryd.prog 10 #[.pointer (some ⟨sb, 0, none⟩)] w fun e w' => ToQ w sb s E B e w' := by
  have HS := Hid.out (p := Hid _) h
  clear h
  go_enter Tryd.func10, Tryd.ntmps10
  go_wp2
  obtain ⟨W, rfl⟩ : ∃ V, V = w := ⟨_, rfl⟩
  go_loopw [3] (fun _ wr => ∃ j : Nat, k ≤ j ∧ j ≤ s.size ∧ Hid (skAt s false j = (E, B)) ∧ Hid (Sc wr sb s j ∧ W.grownBy wr (some sb))) (fun _ wr => s.size - atOf wr sb)
  case atStart => exact ⟨k, Nat.le_refl _, hk, HE, ⟨HS.out, World.grownBy.refl _ _⟩⟩
  case round =>
    obtain ⟨j, hj1, hj2, HJ, HW⟩ := hrel
    have h0 := HW.out.1.c0
    have h1 := HW.out.1.c1
    have hf := HW.out.1.fr
    have HB : Hid (∀ V, Below wr.heap.size wr V → Sc V sb s j ∧ W.grownBy V (some sb)) := fun V hV => ⟨HW.out.1.below hV, grown_then HW.out.2 (grown_of_below hV _)⟩
    have ha : atOf wr sb = j := HW.out.1.at
    by_cases hlt : j < s.size
    · have hlt' : (j : Int) < (s.size : Int) := by omega
      cases hb : isBlk s[j] with
      | true =>
        have hc : canBe s[j] = true := by simp [canBe, hb]
        have HJ2 : Hid (skAt s false (j + 1) = (E, B)) := (skAt_blk hlt hc hb).symm.trans HJ.out
        have HW2 : Hid (∀ m, Sc ((wr.drewN m).setCell ⟨sb, 1, none⟩ (.int .i64 ((j : Int) + 1))) sb s (j + 1) ∧ W.grownBy ((wr.drewN m).setCell ⟨sb, 1, none⟩ (.int .i64 ((j : Int) + 1))) (some sb)) := fun m => by
          have h2 := HB.out (wr.drewN m) (below_drewN (Below.refl _ _))
          exact ⟨h2.1.set (j + 1), grown_then h2.2 (grown_set _ _ _ _)⟩
        go_wp2_with fail
        go_quiet (fail)
        go_wp2_with fail
        refine region_tail 9 (by kernel_rfl) (by kernel_rfl) ?_
        simp only [List.take_succ_cons, List.take_zero, List.drop_succ_cons, List.drop_zero]
        repeat still_step
        refine wpStill_nil ?_
        go_wp2_with fail
        refine Calls.mono (pblk_any s[j] _) ?_
        rintro e w' ⟨rfl, rfl⟩
        rw [hb]
        go_wp2_with fail
        go_roundw
        case rel => exact ⟨j + 1, by omega, by omega, HJ2, HW2.out _⟩
        case measure => rw [(HW2.out _).1.at, ha]; omega
      | false =>
        by_cases h47 : s[j].toNat = 47 ∧ ∃ h : j + 1 < s.size, s[j + 1].toNat = 47
        · have hp := (pre_two s j hlt).2 h47
          have hc : canBe s[j] = true := by simp [canBe, h47.1]
          have HJ2 : Hid (skAt s true j = (E, B)) := by
            show _ = _
            rw [← HJ.out, skAt_open h47.2.1 hc hb h47.1 h47.2.2]
            exact skAt_over hlt hc (by simp [h47.1])
          have hne : ((s[j].toNat : Int) != 10) = true := by simp [h47.1]
          have HP := Hid.out (p := Hid _) hp
          have HNE := Hid.out (p := Hid _) hne
          clear h47 hp hne
          go_wp2_with fail
          go_quiet (fail)
          go_wp2_with fail
          refine region_tail 9 (by kernel_rfl) (by kernel_rfl) ?_
          simp only [List.take_succ_cons, List.take_zero, List.drop_succ_cons, List.drop_zero]
          repeat still_step
          refine wpStill_nil ?_
          go_wp2_with fail
          refine Calls.mono (pblk_any s[j] _) ?_
          rintro e w' ⟨rfl, rfl⟩
          rw [hb]
          go_wp2_with fail
          refine region_tail 9 (by kernel_rfl) (by kernel_rfl) ?_
          simp only [List.take_succ_cons, List.take_zero, List.drop_succ_cons, List.drop_zero]
          repeat still_step
          refine wpStill_nil ?_
          go_wp2_with fail
          refine Calls.mono (Tryd.strings_HasPrefix _ _ _) ?_
          rintro e w' ⟨rfl, rfl⟩
          rw [HP.out]
          go_wp2_with fail
          have h2 := HB.out _ (below_drewN (k := nq + 1 + 1) (Below.refl _ _))
          refine Calls.mono (note_any sb s hs j hj2 E B HJ2 _ h2.1) ?_
          rintro e w1 ⟨hg, h3⟩
          have hg2 := grown_then h2.2 hg
          rcases h3 with ⟨v, rfl, j2, hq1, hq2, hq3, hq4, hq5⟩ | ⟨rfl, hB⟩
          · have hj3 := hq3 hlt HNE.out
            have HQ5 : Hid (skAt s false j2 = (E, B)) := hq5
            have HQ4 : Hid (Sc w1 sb s j2 ∧ W.grownBy w1 (some sb)) := ⟨hq4, hg2⟩
            clear hq5 hq4 hq3 hg2 hg h2
            go_wp2_with fail
            go_roundw
            case rel => exact ⟨j2, by omega, hq2, HQ5, HQ4⟩
            case measure => rw [HQ4.out.1.at, ha]; omega
          · exact ⟨rfl, hg2, Or.inr ⟨rfl, hB⟩⟩
        · have hp : Lib.hasPrefix (s.extract j s.size).data.toList [47, 47] = false := by
            rw [Bool.eq_false_iff]
            intro e
            exact h47 ((pre_two s j hlt).1 e)
          have HST : Hid (j = E ∧ Stand s E B) := by
            have h2 := HJ.out
            cases hc : canBe s[j] with
            | false =>
              rw [skAt_bad false hlt hc] at h2
              simp only [Prod.mk.injEq] at h2
              obtain ⟨rfl, rfl⟩ := h2
              exact ⟨rfl, by simp only [Stand, if_true]; exact ⟨hlt, hc⟩⟩
            | true =>
              rw [skAt_stop hlt hc hb h47] at h2
              simp only [Prod.mk.injEq] at h2
              obtain ⟨rfl, rfl⟩ := h2
              exact ⟨rfl, by simp only [Stand, Bool.false_eq_true, if_false]; exact fun _ => hc⟩
          have HP := Hid.out (p := Hid _) hp
          clear h47 hp
          go_wp2_with fail
          go_quiet (fail)
          go_wp2_with fail
          refine region_tail 9 (by kernel_rfl) (by kernel_rfl) ?_
          simp only [List.take_succ_cons, List.take_zero, List.drop_succ_cons, List.drop_zero]
          repeat still_step
          refine wpStill_nil ?_
          go_wp2_with fail
          refine Calls.mono (pblk_any s[j] _) ?_
          rintro e w' ⟨rfl, rfl⟩
          rw [hb]
          go_wp2_with fail
          refine region_tail 9 (by kernel_rfl) (by kernel_rfl) ?_
          simp only [List.take_succ_cons, List.take_zero, List.drop_succ_cons, List.drop_zero]
          repeat still_step
          refine wpStill_nil ?_
          go_wp2_with fail
          refine Calls.mono (Tryd.strings_HasPrefix _ _ _) ?_
          rintro e w' ⟨rfl, rfl⟩
          rw [HP.out]
          go_wp2_with fail
          go_ret
          have h2 := HB.out _ (below_drewN (k := nq + 1 + 1) (Below.refl _ _))
          obtain ⟨rfl, h3⟩ := HST.out
          exact ⟨h2.2, Or.inl ⟨ret_bool (by simpa using hlt), h2.1, h3⟩⟩
    · have hlt' : decide ((j : Int) < (s.size : Int)) = false := by simpa using hlt
      go_wp2_with fail
      go_quiet (fail)
      go_wp2
      go_ret
      have h2 := HJ.out
      rw [skAt_end false (by omega)] at h2
      simp only [Prod.mk.injEq] at h2
      obtain ⟨rfl, rfl⟩ := h2
      have h3 := HB.out _ (below_drewN (k := nq) (Below.refl _ _))
      exact ⟨h3.2, Or.inl ⟨ret_bool (by simpa using hlt), h3.1, by simp only [Stand, Bool.false_eq_true, if_false]; exact fun h => absurd h hlt⟩⟩
end Go.Proofs.YtmodiekhiebjoadDoor
