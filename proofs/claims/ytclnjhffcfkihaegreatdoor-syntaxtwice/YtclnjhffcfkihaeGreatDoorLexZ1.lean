/-
  The document's small functions of chapter 8, of bytes and of words; and the program's.
  The document's way over blanks and notes.
  The program's scanner in memory; whether the byte that is next can stand.
-/
import Derived.Test.YtclnjhffcfkihaeGreatDoorBase
import Derived.Deep.QuietTactic
import Derived.BigQuiet
namespace Go.Proofs.YtclnjhffcfkihaeGreatDoor
section
open Go.RowKit

theorem plet_any (c : UInt8) (w : World) :
    Calls Tryz.prog 82 #[.int .u8 (c.toNat : Int)] w fun e w' => e = .returned (.bool (isLet c)) ∧ w' = w := by
  go_enter Tryz.func82, Tryz.ntmps82
  go_wp2
  all_goals go_ret
  all_goals refine ⟨ret_bool ?_, rfl⟩
  all_goals (rw [Bool.eq_iff_iff]; simp [isLet] <;> omega)
theorem pdig_any (c : UInt8) (w : World) :
    Calls Tryz.prog 84 #[.int .u8 (c.toNat : Int)] w fun e w' => e = .returned (.bool (isDig c)) ∧ w' = w := by
  go_enter Tryz.func84, Tryz.ntmps84
  go_wp2
  all_goals go_ret
  all_goals refine ⟨ret_bool ?_, rfl⟩
  all_goals (rw [Bool.eq_iff_iff]; simp [isDig] <;> omega)
theorem pblk_any (c : UInt8) (w : World) :
    Calls Tryz.prog 78 #[.int .u8 (c.toNat : Int)] w fun e w' => e = .returned (.bool (isBlk c)) ∧ w' = w := by
  go_enter Tryz.func78, Tryz.ntmps78
  go_wp2
  all_goals go_ret
  all_goals refine ⟨ret_bool ?_, rfl⟩
  all_goals (rw [Bool.eq_iff_iff]; simp [isBlk] <;> omega)

/-- A text is one of the words, or none of them. -/
theorem word_cases (s : ByteArray) : isWord s.data.toList = false ∨ ∃ l ∈ wordsL, s = ⟨⟨l⟩⟩ := by
  by_cases h : s.data.toList ∈ wordsL
  · exact Or.inr ⟨_, h, str_of rfl⟩
  · exact Or.inl (by simp [isWord, h])
theorem word_ne {s : ByteArray} (h : isWord s.data.toList = false) {l : List UInt8} (hl : l ∈ wordsL) : (s.toList == l) = false := by
  rw [Lib.toList_data, beq_eq_false_iff_ne]
  intro e
  rw [e] at h
  simp [isWord, hl] at h

theorem pkind_any (s : ByteArray) (w : World) :
    Calls Tryz.prog 112 #[.string s] w fun e w' => e = .returned (.int .i64 (kindW s.data.toList)) ∧ w' = w := by
  rcases word_cases s with h | ⟨l, hl, rfl⟩
  · have h1 := word_ne h (l := [105, 110, 116]) (by simp [wordsL])
    have h2 := word_ne h (l := [108, 111, 99, 107]) (by simp [wordsL])
    have h3 := word_ne h (l := [117, 110, 108, 111, 99, 107]) (by simp [wordsL])
    have h4 := word_ne h (l := [116, 104, 114, 101, 97, 100]) (by simp [wordsL])
    have h5 := word_ne h (l := [105, 102]) (by simp [wordsL])
    have h6 := word_ne h (l := [101, 108, 115, 101]) (by simp [wordsL])
    have h7 := word_ne h (l := [119, 104, 105, 108, 101]) (by simp [wordsL])
    have h8 := word_ne h (l := [112, 114, 105, 110, 116]) (by simp [wordsL])
    have h9 := word_ne h (l := [102, 101, 110, 99, 101]) (by simp [wordsL])
    have h10 := word_ne h (l := [99, 97, 115]) (by simp [wordsL])
    go_enter Tryz.func112, Tryz.ntmps112
    go_wp2
    go_ret
    exact ⟨ret_int (by rw [kindW, h]; rfl), rfl⟩
  · simp only [wordsL, List.mem_cons, List.not_mem_nil, or_false] at hl
    rcases hl with rfl | rfl | rfl | rfl | rfl | rfl | rfl | rfl | rfl | rfl
    all_goals
      go_enter Tryz.func112, Tryz.ntmps112
      go_wp2
      go_ret
      exact ⟨rfl, rfl⟩
end

section
open Go.RowKit

theorem drop_at (s : ByteArray) (k : Nat) (h : k < s.size) : s.data.toList.drop k = s[k] :: s.data.toList.drop (k + 1) := by
  rw [List.drop_eq_getElem_cons (by simpa using h)]; rfl
theorem drop_over (s : ByteArray) (k : Nat) (h : s.size ≤ k) : s.data.toList.drop k = [] := List.drop_of_length_le (by simpa using h)

/-- Over blanks and notes, from byte k on: the place, and whether a byte there cannot stand. -/
def skAt (s : ByteArray) (note : Bool) (k : Nat) : Nat × Bool := (k + (skipL note (s.data.toList.drop k)).1, (skipL note (s.data.toList.drop k)).2)

section
variable {s : ByteArray} {k : Nat}
theorem skAt_end (n : Bool) (h : s.size ≤ k) : skAt s n k = (k, false) := by
  rw [skAt, drop_over s k h]; rfl
theorem skAt_bad (n : Bool) (h : k < s.size) (hc : canBe s[k] = false) : skAt s n k = (k, true) := by
  rw [skAt, drop_at s k h, skipL, if_pos hc]; rfl
theorem skAt_note (h : k < s.size) (hc : canBe s[k] = true) : skAt s true k = skAt s (decide (s[k].toNat ≠ 10)) (k + 1) := by
  rw [skAt, drop_at s k h, skipL, if_neg (by simp [hc]), if_pos rfl, skAt]
  simp only [Prod.mk.injEq, and_true]; omega
theorem skAt_blk (h : k < s.size) (hc : canBe s[k] = true) (hb : isBlk s[k] = true) : skAt s false k = skAt s false (k + 1) := by
  rw [skAt, drop_at s k h, skipL, if_neg (by simp [hc]), if_neg (by simp), if_pos hb, skAt]
  simp only [Prod.mk.injEq, and_true]; omega
theorem skAt_open (h : k + 1 < s.size) (hc : canBe s[k] = true) (hb : isBlk s[k] = false) (h1 : s[k].toNat = 47) (h2 : s[k + 1].toNat = 47) : skAt s false k = skAt s true (k + 1) := by
  rw [skAt, drop_at s k (by omega), skipL, if_neg (by simp [hc]), if_neg (by simp), if_neg (by simp [hb]), if_pos ⟨h1, by rw [drop_at s (k + 1) h]; simp [h2]⟩, skAt]
  simp only [Prod.mk.injEq, and_true]; omega
theorem skAt_stop (h : k < s.size) (hc : canBe s[k] = true) (hb : isBlk s[k] = false) (h1 : ¬ (s[k].toNat = 47 ∧ ∃ h : k + 1 < s.size, s[k + 1].toNat = 47)) : skAt s false k = (k, false) := by
  rw [skAt, drop_at s k h, skipL, if_neg (by simp [hc]), if_neg (by simp), if_neg (by simp [hb]), if_neg]
  · rfl
  · rintro ⟨e1, e2⟩
    rcases Nat.lt_or_ge (k + 1) s.size with h2 | h2
    · rw [drop_at s (k + 1) h2] at e2
      exact h1 ⟨e1, h2, by simpa using e2⟩
    · rw [drop_over s (k + 1) h2] at e2
      simp at e2
theorem skAt_le (n : Bool) (h : k ≤ s.size) : k ≤ (skAt s n k).1 ∧ (skAt s n k).1 ≤ s.size := by
  have := skipL_le (s.data.toList.drop k) n
  have hl : s.data.toList.length = s.size := by simp
  rw [List.length_drop, hl] at this
  simp only [skAt]; omega
end
end

section
open Go.RowKit

/-- A scanner: its text, the byte that is next. -/
def Sc (w : World) (sb : Nat) (s : ByteArray) (k : Nat) : Prop := w.heap[sb]? = some (.cells #[.string s, .int .i64 (k : Int)] 89)
section
variable {w w' : World} {sb : Nat} {s : ByteArray} {k : Nat}
theorem Sc.c0 (h : Sc w sb s k) : w.cell? ⟨sb, 0, none⟩ = some (.string s) := box_cell h rfl
theorem Sc.c1 (h : Sc w sb s k) : w.cell? ⟨sb, 1, none⟩ = some (.int .i64 (k : Int)) := box_cell h rfl
theorem Sc.fr (h : Sc w sb s k) (i : Nat) : w.frozen? ⟨sb, i, none⟩ = false := box_free h
theorem Sc.lt (h : Sc w sb s k) : sb < w.heap.size := by
  rcases Nat.lt_or_ge sb w.heap.size with h1 | h1
  · exact h1
  · unfold Sc at h
    rw [Array.getElem?_eq_none h1] at h; cases h
theorem Sc.below (h : Sc w sb s k) (hb : Below w.heap.size w w') : Sc w' sb s k := (hb.block _ h.lt).trans h
theorem Sc.set (h : Sc w sb s k) (j : Nat) : Sc (w.setCell ⟨sb, 1, none⟩ (.int .i64 (j : Int))) sb s j := by
  unfold Sc at h ⊢
  simp only [World.setCell, Array.getElem?_modify, if_true, h, Option.map_some]
  rfl
theorem grown_of_below (h : Below w.heap.size w w') (row : Option Nat) : w.grownBy w' row := ⟨h.os, h.tape, h.output, h.size, fun i hi _ => h.block i hi⟩
theorem grown_set (W : World) (b i : Nat) (v : Value) : W.grownBy (W.setCell ⟨b, i, none⟩ v) (some b) :=
  ⟨rfl, rfl, rfl, by simp [World.setCell], fun j _ hj => Below.heap_setCell _ _ _ _ (fun e => hj (by rw [e]))⟩
theorem grown_then {a b c : World} {row : Option Nat} (h : a.grownBy b row) (k : b.grownBy c row) : a.grownBy c row :=
  ⟨k.os.trans h.os, k.tape.trans h.tape, k.output.trans h.output, Nat.le_trans h.size k.size, fun i hi hr => (k.block i (Nat.lt_of_lt_of_le hi h.size) hr).trans (h.block i hi hr)⟩
end

/-- What is given up with. -/
def badB (k : Nat) : List PanicEntry := [{ v := .iface 86 (.int .i64 (k : Int)), recovered := false }]
def badT (k : Nat) : List PanicEntry := [{ v := .iface 87 (.int .i64 (k : Int)), recovered := false }]

set_option maxRecDepth 100000 in
set_option maxHeartbeats 1600000 in
theorem ask_yes (sb : Nat) (s : ByteArray) (k : Nat) (hk : k < s.size) (hc : canBe s[k] = true) (w : World) (h : Sc w sb s k) :
    Calls Tryz.prog 81 #[.pointer (some ⟨sb, 0, none⟩)] w fun e w' => e = .returned (.tuple #[]) ∧ ∃ m, w' = w.drewN m := by
  have h0 := h.c0
  have h1 := h.c1
  clear h
  cases hb : isBlk s[k] with
  | true =>
    go_enter Tryz.func81, Tryz.ntmps81
    go_wp2_with fail
    go_quiet (fail)
    go_wp2_with (first | (go_at_call 78; refine (pblk_any s[k] _).mono ?_; rintro e w' ⟨rfl, rfl⟩; rw [hb]))
    all_goals (go_end0; exact ⟨rfl, _, rfl⟩)
  | false =>
    have hd1 : 32 ≤ (s[k].toNat : Int) := by simp [canBe, hb] at hc; omega
    have hd2 : (s[k].toNat : Int) ≤ 126 := by simp [canBe, hb] at hc; omega
    go_enter Tryz.func81, Tryz.ntmps81
    go_wp2_with fail
    go_quiet (fail)
    go_wp2_with (first | (go_at_call 78; refine (pblk_any s[k] _).mono ?_; rintro e w' ⟨rfl, rfl⟩; rw [hb]))
    go_end0
    exact ⟨rfl, _, rfl⟩

set_option maxRecDepth 100000 in
set_option maxHeartbeats 1600000 in
theorem ask_no (sb : Nat) (s : ByteArray) (k : Nat) (hk : k < s.size) (hc : canBe s[k] = false) (w : World) (h : Sc w sb s k) :
    Calls Tryz.prog 81 #[.pointer (some ⟨sb, 0, none⟩)] w fun e w' => e = .panicked (badB k) ∧ Below w.heap.size w w' := by
  have h0 := h.c0
  have h1 := h.c1
  clear h
  have hb : isBlk s[k] = false := by
    cases hb : isBlk s[k] with
    | true => simp [canBe, hb] at hc
    | false => rfl
  by_cases hd : (s[k].toNat : Int) < 32
  · go_enter Tryz.func81, Tryz.ntmps81
    go_wp2_with fail
    go_quiet (fail)
    go_wp2_with (first | (go_at_call 78; refine (pblk_any s[k] _).mono ?_; rintro e w' ⟨rfl, rfl⟩; rw [hb]))
    exact ⟨rfl, rfl, below_drewN (Below.refl _ _)⟩
  · have hd2 : 126 < (s[k].toNat : Int) := by simp [canBe, hb] at hc; omega
    go_enter Tryz.func81, Tryz.ntmps81
    go_wp2_with fail
    go_quiet (fail)
    go_wp2_with (first | (go_at_call 78; refine (pblk_any s[k] _).mono ?_; rintro e w' ⟨rfl, rfl⟩; rw [hb]))
    exact ⟨rfl, rfl, below_drewN (Below.refl _ _)⟩
end

end Go.Proofs.YtclnjhffcfkihaeGreatDoor
