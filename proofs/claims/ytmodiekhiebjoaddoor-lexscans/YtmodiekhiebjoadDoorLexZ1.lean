/-
  The document's small functions of chapter 8, of bytes and of words; and the program's.
-/
import Derived.Test.YtmodiekhiebjoadDoorLexP
namespace Go.Proofs.YtmodiekhiebjoadDoor
open Go.RowKit

theorem rlet_any (c : UInt8) (w : World) :
    Calls Tryd.prog 14 #[.int .u8 (c.toNat : Int)] w fun e w' => e = .returned (.bool (isLet c)) ∧ w' = w := by
  go_enter Tryd.func14, Tryd.ntmps14
  go_wp2
  all_goals go_ret
  all_goals refine ⟨ret_bool ?_, rfl⟩
  all_goals (rw [Bool.eq_iff_iff]; simp [isLet] <;> omega)
theorem rdig_any (c : UInt8) (w : World) :
    Calls Tryd.prog 15 #[.int .u8 (c.toNat : Int)] w fun e w' => e = .returned (.bool (isDig c)) ∧ w' = w := by
  go_enter Tryd.func15, Tryd.ntmps15
  go_wp2
  all_goals go_ret
  all_goals refine ⟨ret_bool ?_, rfl⟩
  all_goals (rw [Bool.eq_iff_iff]; simp [isDig] <;> omega)
theorem rblk_any (c : UInt8) (w : World) :
    Calls Tryd.prog 13 #[.int .u8 (c.toNat : Int)] w fun e w' => e = .returned (.bool (isBlk c)) ∧ w' = w := by
  go_enter Tryd.func13, Tryd.ntmps13
  go_wp2
  all_goals go_ret
  all_goals refine ⟨ret_bool ?_, rfl⟩
  all_goals (rw [Bool.eq_iff_iff]; simp [isBlk] <;> omega)
theorem rcan_any (c : UInt8) (w : World) :
    Calls Tryd.prog 12 #[.int .u8 (c.toNat : Int)] w fun e w' => e = .returned (.bool (canBe c)) ∧ w' = w := by
  cases hb : isBlk c
  all_goals
    go_enter Tryd.func12, Tryd.ntmps12
    go_wp2_with (first | (go_at_call 13; refine (rblk_any c _).mono ?_; rintro e w' ⟨rfl, rfl⟩; rw [hb]))
    all_goals go_ret
    all_goals refine ⟨ret_bool ?_, rfl⟩
    all_goals (rw [Bool.eq_iff_iff]; simp [canBe, hb] <;> omega)
theorem plet_any (c : UInt8) (w : World) :
    Calls Tryd.prog 22 #[.int .u8 (c.toNat : Int)] w fun e w' => e = .returned (.bool (isLet c)) ∧ w' = w := by
  go_enter Tryd.func22, Tryd.ntmps22
  go_wp2
  all_goals go_ret
  all_goals refine ⟨ret_bool ?_, rfl⟩
  all_goals (rw [Bool.eq_iff_iff]; simp [isLet] <;> omega)
theorem pdig_any (c : UInt8) (w : World) :
    Calls Tryd.prog 24 #[.int .u8 (c.toNat : Int)] w fun e w' => e = .returned (.bool (isDig c)) ∧ w' = w := by
  go_enter Tryd.func24, Tryd.ntmps24
  go_wp2
  all_goals go_ret
  all_goals refine ⟨ret_bool ?_, rfl⟩
  all_goals (rw [Bool.eq_iff_iff]; simp [isDig] <;> omega)
theorem pblk_any (c : UInt8) (w : World) :
    Calls Tryd.prog 18 #[.int .u8 (c.toNat : Int)] w fun e w' => e = .returned (.bool (isBlk c)) ∧ w' = w := by
  go_enter Tryd.func18, Tryd.ntmps18
  go_wp2
  all_goals go_ret
  all_goals refine ⟨ret_bool ?_, rfl⟩
  all_goals (rw [Bool.eq_iff_iff]; simp [isBlk] <;> omega)

/-- A text is one of the words, or none of them. -/
theorem word_cases (s : ByteArray) : isWord s.data.toList = false ∨ ∃ l ∈ wordsL, s = ⟨⟨l⟩⟩ := by
  by_cases h : s.data.toList ∈ wordsL
  · exact Or.inr ⟨_, h, str_of rfl⟩
  · exact Or.inl (by simp [isWord, h])
theorem word_ne {s : ByteArray} (h : isWord s.data.toList = false) {l : List UInt8} (hl : l ∈ wordsL) : (s.toList == l) = false := by
  rw [Lib.toList_data, beq_eq_false_iff_ne]
  intro e
  rw [e] at h
  simp [isWord, hl] at h

theorem rword_any (s : ByteArray) (w : World) :
    Calls Tryd.prog 16 #[.string s] w fun e w' => e = .returned (.bool (isWord s.data.toList)) ∧ w' = w := by
  rcases word_cases s with h | ⟨l, hl, rfl⟩
  · have h1 := word_ne h (l := [105, 110, 116]) (by simp [wordsL])
    have h2 := word_ne h (l := [108, 111, 99, 107]) (by simp [wordsL])
    have h3 := word_ne h (l := [117, 110, 108, 111, 99, 107]) (by simp [wordsL])
    have h4 := word_ne h (l := [116, 104, 114, 101, 97, 100]) (by simp [wordsL])
    have h5 := word_ne h (l := [105, 102]) (by simp [wordsL])
    have h6 := word_ne h (l := [101, 108, 115, 101]) (by simp [wordsL])
    have h7 := word_ne h (l := [119, 104, 105, 108, 101]) (by simp [wordsL])
    have h8 := word_ne h (l := [112, 114, 105, 110, 116]) (by simp [wordsL])
    have h9 := word_ne h (l := [102, 101, 110, 99, 101]) (by simp [wordsL])
    have h10 := word_ne h (l := [99, 97, 115]) (by simp [wordsL])
    go_enter Tryd.func16, Tryd.ntmps16
    go_wp2
    go_ret
    exact ⟨ret_bool h.symm, rfl⟩
  · simp only [wordsL, List.mem_cons, List.not_mem_nil, or_false] at hl
    rcases hl with rfl | rfl | rfl | rfl | rfl | rfl | rfl | rfl | rfl | rfl
    all_goals
      go_enter Tryd.func16, Tryd.ntmps16
      go_wp2
      go_ret
      exact ⟨rfl, rfl⟩
theorem pkind_any (s : ByteArray) (w : World) :
    Calls Tryd.prog 32 #[.string s] w fun e w' => e = .returned (.int .i64 (kindW s.data.toList)) ∧ w' = w := by
  rcases word_cases s with h | ⟨l, hl, rfl⟩
  · have h1 := word_ne h (l := [105, 110, 116]) (by simp [wordsL])
    have h2 := word_ne h (l := [108, 111, 99, 107]) (by simp [wordsL])
    have h3 := word_ne h (l := [117, 110, 108, 111, 99, 107]) (by simp [wordsL])
    have h4 := word_ne h (l := [116, 104, 114, 101, 97, 100]) (by simp [wordsL])
    have h5 := word_ne h (l := [105, 102]) (by simp [wordsL])
    have h6 := word_ne h (l := [101, 108, 115, 101]) (by simp [wordsL])
    have h7 := word_ne h (l := [119, 104, 105, 108, 101]) (by simp [wordsL])
    have h8 := word_ne h (l := [112, 114, 105, 110, 116]) (by simp [wordsL])
    have h9 := word_ne h (l := [102, 101, 110, 99, 101]) (by simp [wordsL])
    have h10 := word_ne h (l := [99, 97, 115]) (by simp [wordsL])
    go_enter Tryd.func32, Tryd.ntmps32
    go_wp2
    go_ret
    exact ⟨ret_int (by rw [kindW, h]; rfl), rfl⟩
  · simp only [wordsL, List.mem_cons, List.not_mem_nil, or_false] at hl
    rcases hl with rfl | rfl | rfl | rfl | rfl | rfl | rfl | rfl | rfl | rfl
    all_goals
      go_enter Tryd.func32, Tryd.ntmps32
      go_wp2
      go_ret
      exact ⟨rfl, rfl⟩

end Go.Proofs.YtmodiekhiebjoadDoor
