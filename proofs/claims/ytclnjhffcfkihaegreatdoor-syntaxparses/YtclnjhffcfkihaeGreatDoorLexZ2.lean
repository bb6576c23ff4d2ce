/-
  The document's way over blanks and notes.
  The program's scanner in memory; whether the byte that is next can stand.
-/
import Derived.Test.YtclnjhffcfkihaeGreatDoorLexP
import Derived.Deep.QuietTactic
import Derived.BigQuiet
namespace Go.Proofs.YtclnjhffcfkihaeGreatDoor
section
open Go.RowKit

theorem drop_at (s : ByteArray) (k : Nat) (h : k < s.size) : s.data.toList.drop k = s[k] :: s.data.toList.drop (k + 1) := by
  rw [List.drop_eq_getElem_cons (by simpa using h)]; rfl
theorem drop_over (s : ByteArray) (k : Nat) (h : s.size ≤ k) : s.data.toList.drop k = [] := List.drop_of_length_le (by simpa using h)

/-- Over blanks and notes, from byte k on: the place, and whether a byte there cannot stand. -/
def skAt (s : ByteArray) (note : Bool) (k : Nat) : Nat × Bool := (k + (skipL note (s.data.toList.drop k)).1, (skipL note (s.data.toList.drop k)).2)

section
variable {s : ByteArray} {k : Nat}
theorem skAt_end (n : Bool) (h : s.size ≤ k) : skAt s n k = (k, false) := by
  rw [skAt, drop_over s k h]; rfl
theorem skAt_bad (n : Bool) (h : k < s.size) (hc : canBe s[k] = false) : skAt s n k = (k, true) := by
  rw [skAt, drop_at s k h, skipL, if_pos hc]; rfl
theorem skAt_note (h : k < s.size) (hc : canBe s[k] = true) : skAt s true k = skAt s (decide (s[k].toNat ≠ 10)) (k + 1) := by
  rw [skAt, drop_at s k h, skipL, if_neg (by simp [hc]), if_pos rfl, skAt]
  simp only [Prod.mk.injEq, and_true]; omega
theorem skAt_blk (h : k < s.size) (hc : canBe s[k] = true) (hb : isBlk s[k] = true) : skAt s false k = skAt s false (k + 1) := by
  rw [skAt, drop_at s k h, skipL, if_neg (by simp [hc]), if_neg (by simp), if_pos hb, skAt]
  simp only [Prod.mk.injEq, and_true]; omega
theorem skAt_open (h : k + 1 < s.size) (hc : canBe s[k] = true) (hb : isBlk s[k] = false) (h1 : s[k].toNat = 47) (h2 : s[k + 1].toNat = 47) : skAt s false k = skAt s true (k + 1) := by
  rw [skAt, drop_at s k (by omega), skipL, if_neg (by simp [hc]), if_neg (by simp), if_neg (by simp [hb]), if_pos ⟨h1, by rw [drop_at s (k + 1) h]; simp [h2]⟩, skAt]
  simp only [Prod.mk.injEq, and_true]; omega
theorem skAt_stop (h : k < s.size) (hc : canBe s[k] = true) (hb : isBlk s[k] = false) (h1 : ¬ (s[k].toNat = 47 ∧ ∃ h : k + 1 < s.size, s[k + 1].toNat = 47)) : skAt s false k = (k, false) := by
  rw [skAt, drop_at s k h, skipL, if_neg (by simp [hc]), if_neg (by simp), if_neg (by simp [hb]), if_neg]
  · rfl
  · rintro ⟨e1, e2⟩
    rcases Nat.lt_or_ge (k + 1) s.size with h2 | h2
    · rw [drop_at s (k + 1) h2] at e2
      exact h1 ⟨e1, h2, by simpa using e2⟩
    · rw [drop_over s (k + 1) h2] at e2
      simp at e2
theorem skAt_le (n : Bool) (h : k ≤ s.size) : k ≤ (skAt s n k).1 ∧ (skAt s n k).1 ≤ s.size := by
  have := skipL_le (s.data.toList.drop k) n
  have hl : s.data.toList.length = s.size := by simp
  rw [List.length_drop, hl] at this
  simp only [skAt]; omega
end

set_option maxRecDepth 100000 in
set_option maxHeartbeats 1600000 in
theorem rskip_any (s : ByteArray) (hs : s.size ≤ 4000) (i : Nat) (hi : i ≤ s.size) (E : Nat) (B : Bool) (HE : Hid (skAt s false i = (E, B))) (w : World) :
    Calls Tryz.prog 33 #[.string s, .int .i64 (i : Int)] w fun e w' => e = .returned (.tuple #[.int .i64 (E : Int), .bool B]) ∧ w' = w := by
  go_enter Tryz.func33, Tryz.ntmps33
  go_wp2
  go_loop [1, 6] (fun i n => ∃ (k : Nat) (b : Bool), k ≤ s.size ∧ i = .int .i64 k ∧ n = .bool b ∧ Hid (skAt s b k = (E, B))) (fun i _ => s.size - (intOf i).toNat)
  case atStart => exact ⟨i, false, hi, rfl, rfl, HE⟩
  case round =>
    obtain ⟨k, b, hk, rfl, rfl, HK⟩ := hrel
    by_cases hlt : k < s.size
    · cases hc : canBe s[k] with
      | false =>
        have h1 := HK.out
        rw [skAt_bad b hlt hc] at h1
        simp only [Prod.mk.injEq] at h1
        obtain ⟨rfl, rfl⟩ := h1
        go_wp2_with (first | (go_at_call 60; refine (rcan_any s[k] _).mono ?_; rintro e w' ⟨rfl, rfl⟩; rw [hc]))
        go_ret2
        exact ⟨rfl, rfl⟩
      | true =>
        cases b with
        | true =>
          have HN : Hid (skAt s ((s[k].toNat : Int) != 10) (k + 1) = (E, B)) := by
            have h1 := HK.out
            rw [skAt_note hlt hc] at h1
            show _ = _
            rw [← h1]
            congr 1
            rw [Bool.eq_iff_iff]; simp; omega
          cases hb : isBlk s[k]
          all_goals
            go_wp2_with (first | (go_at_call 60; refine (rcan_any s[k] _).mono ?_; rintro e w' ⟨rfl, rfl⟩; rw [hc]) | (go_at_call 61; refine (rblk_any s[k] _).mono ?_; rintro e w' ⟨rfl, rfl⟩; rw [hb]))
            go_round
            case rel => exact ⟨k + 1, _, by omega, by go_num, rfl, HN⟩
            case measure => simp [intOf]; omega
        | false =>
          cases hb : isBlk s[k] with
          | true =>
            have HN : Hid (skAt s false (k + 1) = (E, B)) := (skAt_blk hlt hc hb).symm.trans HK.out
            go_wp2_with (first | (go_at_call 60; refine (rcan_any s[k] _).mono ?_; rintro e w' ⟨rfl, rfl⟩; rw [hc]) | (go_at_call 61; refine (rblk_any s[k] _).mono ?_; rintro e w' ⟨rfl, rfl⟩; rw [hb]))
            go_round
            case rel => exact ⟨k + 1, false, by omega, by go_num, rfl, HN⟩
            case measure => simp [intOf]; omega
          | false =>
            by_cases h47 : s[k].toNat = 47 ∧ ∃ h : k + 1 < s.size, s[k + 1].toNat = 47
            · obtain ⟨h1, h2, h3⟩ := h47
              have HN : Hid (skAt s true (k + 1) = (E, B)) := (skAt_open h2 hc hb h1 h3).symm.trans HK.out
              have e1 : ((s[k].toNat : Int) == 47) = true := by simp; omega
              have e2 : ((s[k + 1].toNat : Int) == 47) = true := by simp; omega
              have h2' : (k : Int) + 1 < (s.size : Int) := by omega
              clear h1 h3 HK HE
              go_wp2_with (first | (go_at_call 60; refine (rcan_any s[k] _).mono ?_; rintro e w' ⟨rfl, rfl⟩; rw [hc]) | (go_at_call 61; refine (rblk_any s[k] _).mono ?_; rintro e w' ⟨rfl, rfl⟩; rw [hb]))
              go_round
              case rel => exact ⟨k + 1, true, by omega, by go_num, rfl, HN⟩
              case measure => simp [intOf]; omega
            · have h1 := HK.out
              rw [skAt_stop hlt hc hb h47] at h1
              simp only [Prod.mk.injEq] at h1
              obtain ⟨rfl, rfl⟩ := h1
              by_cases h1 : k + 1 < s.size
              · by_cases h2 : s[k].toNat = 47
                · have e1 : ((s[k].toNat : Int) == 47) = true := by simp; omega
                  have e2 : ((s[k + 1].toNat : Int) == 47) = false := by
                    rw [beq_eq_false_iff_ne]
                    intro e
                    exact h47 ⟨h2, h1, by omega⟩
                  have h2' : (k : Int) + 1 < (s.size : Int) := by omega
                  clear h2 HK HE h47
                  go_wp2_with (first | (go_at_call 60; refine (rcan_any s[k] _).mono ?_; rintro e w' ⟨rfl, rfl⟩; rw [hc]) | (go_at_call 61; refine (rblk_any s[k] _).mono ?_; rintro e w' ⟨rfl, rfl⟩; rw [hb]))
                  go_ret2
                  exact ⟨rfl, rfl⟩
                · have e1 : ((s[k].toNat : Int) == 47) = false := by rw [beq_eq_false_iff_ne]; omega
                  have h2' : (k : Int) + 1 < (s.size : Int) := by omega
                  clear h2 HK HE h47
                  go_wp2_with (first | (go_at_call 60; refine (rcan_any s[k] _).mono ?_; rintro e w' ⟨rfl, rfl⟩; rw [hc]) | (go_at_call 61; refine (rblk_any s[k] _).mono ?_; rintro e w' ⟨rfl, rfl⟩; rw [hb]))
                  go_ret2
                  exact ⟨rfl, rfl⟩
              · have h2' : ¬ (k : Int) + 1 < (s.size : Int) := by omega
                clear HK HE h47
                go_wp2_with (first | (go_at_call 60; refine (rcan_any s[k] _).mono ?_; rintro e w' ⟨rfl, rfl⟩; rw [hc]) | (go_at_call 61; refine (rblk_any s[k] _).mono ?_; rintro e w' ⟨rfl, rfl⟩; rw [hb]))
                go_ret2
                exact ⟨rfl, rfl⟩
    · have h1 := HK.out
      rw [skAt_end b (by omega)] at h1
      simp only [Prod.mk.injEq] at h1
      obtain ⟨rfl, rfl⟩ := h1
      go_wp2
      go_ret2
      exact ⟨rfl, rfl⟩
end

section
open Go.RowKit

/-- A scanner: its text, the byte that is next. -/
def Sc (w : World) (sb : Nat) (s : ByteArray) (k : Nat) : Prop := w.heap[sb]? = some (.cells #[.string s, .int .i64 (k : Int)] 89)
section
variable {w w' : World} {sb : Nat} {s : ByteArray} {k : Nat}
theorem Sc.c0 (h : Sc w sb s k) : w.cell? ⟨sb, 0, none⟩ = some (.string s) := box_cell h rfl
theorem Sc.c1 (h : Sc w sb s k) : w.cell? ⟨sb, 1, none⟩ = some (.int .i64 (k : Int)) := box_cell h rfl
theorem Sc.fr (h : Sc w sb s k) (i : Nat) : w.frozen? ⟨sb, i, none⟩ = false := box_free h
theorem Sc.lt (h : Sc w sb s k) : sb < w.heap.size := by
  rcases Nat.lt_or_ge sb w.heap.size with h1 | h1
  · exact h1
  · unfold Sc at h
    rw [Array.getElem?_eq_none h1] at h; cases h
theorem Sc.below (h : Sc w sb s k) (hb : Below w.heap.size w w') : Sc w' sb s k := (hb.block _ h.lt).trans h
theorem Sc.set (h : Sc w sb s k) (j : Nat) : Sc (w.setCell ⟨sb, 1, none⟩ (.int .i64 (j : Int))) sb s j := by
  unfold Sc at h ⊢
  simp only [World.setCell, Array.getElem?_modify, if_true, h, Option.map_some]
  rfl
theorem grown_of_below (h : Below w.heap.size w w') (row : Option Nat) : w.grownBy w' row := ⟨h.os, h.tape, h.output, h.size, fun i hi _ => h.block i hi⟩
theorem grown_set (W : World) (b i : Nat) (v : Value) : W.grownBy (W.setCell ⟨b, i, none⟩ v) (some b) :=
  ⟨rfl, rfl, rfl, by simp [World.setCell], fun j _ hj => Below.heap_setCell _ _ _ _ (fun e => hj (by rw [e]))⟩
theorem grown_then {a b c : World} {row : Option Nat} (h : a.grownBy b row) (k : b.grownBy c row) : a.grownBy c row :=
  ⟨k.os.trans h.os, k.tape.trans h.tape, k.output.trans h.output, Nat.le_trans h.size k.size, fun i hi hr => (k.block i (Nat.lt_of_lt_of_le hi h.size) hr).trans (h.block i hi hr)⟩
end

/-- What is given up with. -/
def badB (k : Nat) : List PanicEntry := [{ v := .iface 86 (.int .i64 (k : Int)), recovered := false }]
def badT (k : Nat) : List PanicEntry := [{ v := .iface 87 (.int .i64 (k : Int)), recovered := false }]

set_option maxRecDepth 100000 in
set_option maxHeartbeats 1600000 in
theorem ask_yes (sb : Nat) (s : ByteArray) (k : Nat) (hk : k < s.size) (hc : canBe s[k] = true) (w : World) (h : Sc w sb s k) :
    Calls Tryz.prog 81 #[.pointer (some ⟨sb, 0, none⟩)] w fun e w' => e = .returned (.tuple #[]) ∧ ∃ m, w' = w.drewN m := by
  have h0 := h.c0
  have h1 := h.c1
  clear h
  cases hb : isBlk s[k] with
  | true =>
    go_enter Tryz.func81, Tryz.ntmps81
    go_wp2_with fail
    go_quiet (fail)
    go_wp2_with (first | (go_at_call 78; refine (pblk_any s[k] _).mono ?_; rintro e w' ⟨rfl, rfl⟩; rw [hb]))
    all_goals (go_end0; exact ⟨rfl, _, rfl⟩)
  | false =>
    have hd1 : 32 ≤ (s[k].toNat : Int) := by simp [canBe, hb] at hc; omega
    have hd2 : (s[k].toNat : Int) ≤ 126 := by simp [canBe, hb] at hc; omega
    go_enter Tryz.func81, Tryz.ntmps81
    go_wp2_with fail
    go_quiet (fail)
    go_wp2_with (first | (go_at_call 78; refine (pblk_any s[k] _).mono ?_; rintro e w' ⟨rfl, rfl⟩; rw [hb]))
    go_end0
    exact ⟨rfl, _, rfl⟩

set_option maxRecDepth 100000 in
set_option maxHeartbeats 1600000 in
theorem ask_no (sb : Nat) (s : ByteArray) (k : Nat) (hk : k < s.size) (hc : canBe s[k] = false) (w : World) (h : Sc w sb s k) :
    Calls Tryz.prog 81 #[.pointer (some ⟨sb, 0, none⟩)] w fun e w' => e = .panicked (badB k) ∧ Below w.heap.size w w' := by
  have h0 := h.c0
  have h1 := h.c1
  clear h
  have hb : isBlk s[k] = false := by
    cases hb : isBlk s[k] with
    | true => simp [canBe, hb] at hc
    | false => rfl
  by_cases hd : (s[k].toNat : Int) < 32
  · go_enter Tryz.func81, Tryz.ntmps81
    go_wp2_with fail
    go_quiet (fail)
    go_wp2_with (first | (go_at_call 78; refine (pblk_any s[k] _).mono ?_; rintro e w' ⟨rfl, rfl⟩; rw [hb]))
    exact ⟨rfl, rfl, below_drewN (Below.refl _ _)⟩
  · have hd2 : 126 < (s[k].toNat : Int) := by simp [canBe, hb] at hc; omega
    go_enter Tryz.func81, Tryz.ntmps81
    go_wp2_with fail
    go_quiet (fail)
    go_wp2_with (first | (go_at_call 78; refine (pblk_any s[k] _).mono ?_; rintro e w' ⟨rfl, rfl⟩; rw [hb]))
    exact ⟨rfl, rfl, below_drewN (Below.refl _ _)⟩
end

end Go.Proofs.YtclnjhffcfkihaeGreatDoor
