/-
  The document's way over blanks and notes.
-/
import Derived.Test.YtmodiekhiebjoadDoorLexZ1
namespace Go.Proofs.YtmodiekhiebjoadDoor
open Go.RowKit

theorem drop_at (s : ByteArray) (k : Nat) (h : k < s.size) : s.data.toList.drop k = s[k] :: s.data.toList.drop (k + 1) := by
  rw [List.drop_eq_getElem_cons (by simpa using h)]; rfl
theorem drop_past (s : ByteArray) (k : Nat) (h : s.size ≤ k) : s.data.toList.drop k = [] := List.drop_of_length_le (by simpa using h)

/-- Over blanks and notes, from byte k on: the place, and whether a byte there cannot stand. -/
def skAt (s : ByteArray) (note : Bool) (k : Nat) : Nat × Bool := (k + (skipL note (s.data.toList.drop k)).1, (skipL note (s.data.toList.drop k)).2)

section
variable {s : ByteArray} {k : Nat}
theorem skAt_end (n : Bool) (h : s.size ≤ k) : skAt s n k = (k, false) := by
  rw [skAt, drop_past s k h]; rfl
theorem skAt_bad (n : Bool) (h : k < s.size) (hc : canBe s[k] = false) : skAt s n k = (k, true) := by
  rw [skAt, drop_at s k h, skipL, if_pos hc]; rfl
theorem skAt_note (h : k < s.size) (hc : canBe s[k] = true) : skAt s true k = skAt s (decide (s[k].toNat ≠ 10)) (k + 1) := by
  rw [skAt, drop_at s k h, skipL, if_neg (by simp [hc]), if_pos rfl, skAt]
  simp only [Prod.mk.injEq, and_true]; omega
theorem skAt_blk (h : k < s.size) (hc : canBe s[k] = true) (hb : isBlk s[k] = true) : skAt s false k = skAt s false (k + 1) := by
  rw [skAt, drop_at s k h, skipL, if_neg (by simp [hc]), if_neg (by simp), if_pos hb, skAt]
  simp only [Prod.mk.injEq, and_true]; omega
theorem skAt_open (h : k + 1 < s.size) (hc : canBe s[k] = true) (hb : isBlk s[k] = false) (h1 : s[k].toNat = 47) (h2 : s[k + 1].toNat = 47) : skAt s false k = skAt s true (k + 1) := by
  rw [skAt, drop_at s k (by omega), skipL, if_neg (by simp [hc]), if_neg (by simp), if_neg (by simp [hb]), if_pos ⟨h1, by rw [drop_at s (k + 1) h]; simp [h2]⟩, skAt]
  simp only [Prod.mk.injEq, and_true]; omega
theorem skAt_stop (h : k < s.size) (hc : canBe s[k] = true) (hb : isBlk s[k] = false) (h1 : ¬ (s[k].toNat = 47 ∧ ∃ h : k + 1 < s.size, s[k + 1].toNat = 47)) : skAt s false k = (k, false) := by
  rw [skAt, drop_at s k h, skipL, if_neg (by simp [hc]), if_neg (by simp), if_neg (by simp [hb]), if_neg]
  · rfl
  · rintro ⟨e1, e2⟩
    rcases Nat.lt_or_ge (k + 1) s.size with h2 | h2
    · rw [drop_at s (k + 1) h2] at e2
      exact h1 ⟨e1, h2, by simpa using e2⟩
    · rw [drop_past s (k + 1) h2] at e2
      simp at e2
theorem skAt_le (n : Bool) (h : k ≤ s.size) : k ≤ (skAt s n k).1 ∧ (skAt s n k).1 ≤ s.size := by
  have := skipL_le (s.data.toList.drop k) n
  have hl : s.data.toList.length = s.size := by simp
  rw [List.length_drop, hl] at this
  simp only [skAt]; omega
end

set_option maxHeartbeats 1600000 in
theorem rskip_any (s : ByteArray) (hs : s.size ≤ 4000) (i : Nat) (hi : i ≤ s.size) (E : Nat) (B : Bool) (HE : Hid (skAt s false i = (E, B))) (w : World) :
    Calls Tryd.prog 7 #[.string s, .int .i64 (i : Int)] w fun e w' => e = .returned (.tuple #[.int .i64 (E : Int), .bool B]) ∧ w' = w := by
  go_enter Tryd.func7, Tryd.ntmps7
  go_wp2
  go_loop [1, 6] (fun i n => ∃ (k : Nat) (b : Bool), k ≤ s.size ∧ i = .int .i64 k ∧ n = .bool b ∧ Hid (skAt s b k = (E, B))) (fun i _ => s.size - (intOf i).toNat)
  case atStart => exact ⟨i, false, hi, rfl, rfl, HE⟩
  case round =>
    obtain ⟨k, b, hk, rfl, rfl, HK⟩ := hrel
    by_cases hlt : k < s.size
    · cases hc : canBe s[k] with
      | false =>
        have h1 := HK.out
        rw [skAt_bad b hlt hc] at h1
        simp only [Prod.mk.injEq] at h1
        obtain ⟨rfl, rfl⟩ := h1
        go_wp2_with (first | (go_at_call 12; refine (rcan_any s[k] _).mono ?_; rintro e w' ⟨rfl, rfl⟩; rw [hc]))
        go_ret2
        exact ⟨rfl, rfl⟩
      | true =>
        cases b with
        | true =>
          have HN : Hid (skAt s ((s[k].toNat : Int) != 10) (k + 1) = (E, B)) := by
            have h1 := HK.out
            rw [skAt_note hlt hc] at h1
            show _ = _
            rw [← h1]
            congr 1
            rw [Bool.eq_iff_iff]; simp; omega
          cases hb : isBlk s[k]
          all_goals
            go_wp2_with (first | (go_at_call 12; refine (rcan_any s[k] _).mono ?_; rintro e w' ⟨rfl, rfl⟩; rw [hc]) | (go_at_call 13; refine (rblk_any s[k] _).mono ?_; rintro e w' ⟨rfl, rfl⟩; rw [hb]))
            go_round
            case rel => exact ⟨k + 1, _, by omega, by go_num, rfl, HN⟩
            case measure => simp [intOf]; omega
        | false =>
          cases hb : isBlk s[k] with
          | true =>
            have HN : Hid (skAt s false (k + 1) = (E, B)) := (skAt_blk hlt hc hb).symm.trans HK.out
            go_wp2_with (first | (go_at_call 12; refine (rcan_any s[k] _).mono ?_; rintro e w' ⟨rfl, rfl⟩; rw [hc]) | (go_at_call 13; refine (rblk_any s[k] _).mono ?_; rintro e w' ⟨rfl, rfl⟩; rw [hb]))
            go_round
            case rel => exact ⟨k + 1, false, by omega, by go_num, rfl, HN⟩
            case measure => simp [intOf]; omega
          | false =>
            by_cases h47 : s[k].toNat = 47 ∧ ∃ h : k + 1 < s.size, s[k + 1].toNat = 47
            · obtain ⟨h1, h2, h3⟩ := h47
              have HN : Hid (skAt s true (k + 1) = (E, B)) := (skAt_open h2 hc hb h1 h3).symm.trans HK.out
              have e1 : ((s[k].toNat : Int) == 47) = true := by simp; omega
              have e2 : ((s[k + 1].toNat : Int) == 47) = true := by simp; omega
              have h2' : (k : Int) + 1 < (s.size : Int) := by omega
              clear h1 h3 HK HE
              go_wp2_with (first | (go_at_call 12; refine (rcan_any s[k] _).mono ?_; rintro e w' ⟨rfl, rfl⟩; rw [hc]) | (go_at_call 13; refine (rblk_any s[k] _).mono ?_; rintro e w' ⟨rfl, rfl⟩; rw [hb]))
              go_round
              case rel => exact ⟨k + 1, true, by omega, by go_num, rfl, HN⟩
              case measure => simp [intOf]; omega
            · have h1 := HK.out
              rw [skAt_stop hlt hc hb h47] at h1
              simp only [Prod.mk.injEq] at h1
              obtain ⟨rfl, rfl⟩ := h1
              by_cases h1 : k + 1 < s.size
              · by_cases h2 : s[k].toNat = 47
                · have e1 : ((s[k].toNat : Int) == 47) = true := by simp; omega
                  have e2 : ((s[k + 1].toNat : Int) == 47) = false := by
                    rw [beq_eq_false_iff_ne]
                    intro e
                    exact h47 ⟨h2, h1, by omega⟩
                  have h2' : (k : Int) + 1 < (s.size : Int) := by omega
                  clear h2 HK HE h47
                  go_wp2_with (first | (go_at_call 12; refine (rcan_any s[k] _).mono ?_; rintro e w' ⟨rfl, rfl⟩; rw [hc]) | (go_at_call 13; refine (rblk_any s[k] _).mono ?_; rintro e w' ⟨rfl, rfl⟩; rw [hb]))
                  go_ret2
                  exact ⟨rfl, rfl⟩
                · have e1 : ((s[k].toNat : Int) == 47) = false := by rw [beq_eq_false_iff_ne]; omega
                  have h2' : (k : Int) + 1 < (s.size : Int) := by omega
                  clear h2 HK HE h47
                  go_wp2_with (first | (go_at_call 12; refine (rcan_any s[k] _).mono ?_; rintro e w' ⟨rfl, rfl⟩; rw [hc]) | (go_at_call 13; refine (rblk_any s[k] _).mono ?_; rintro e w' ⟨rfl, rfl⟩; rw [hb]))
                  go_ret2
                  exact ⟨rfl, rfl⟩
              · have h2' : ¬ (k : Int) + 1 < (s.size : Int) := by omega
                clear HK HE h47
                go_wp2_with (first | (go_at_call 12; refine (rcan_any s[k] _).mono ?_; rintro e w' ⟨rfl, rfl⟩; rw [hc]) | (go_at_call 13; refine (rblk_any s[k] _).mono ?_; rintro e w' ⟨rfl, rfl⟩; rw [hb]))
                go_ret2
                exact ⟨rfl, rfl⟩
    · have h1 := HK.out
      rw [skAt_end b (by omega)] at h1
      simp only [Prod.mk.injEq] at h1
      obtain ⟨rfl, rfl⟩ := h1
      go_wp2
      go_ret2
      exact ⟨rfl, rfl⟩

end Go.Proofs.YtmodiekhiebjoadDoor
