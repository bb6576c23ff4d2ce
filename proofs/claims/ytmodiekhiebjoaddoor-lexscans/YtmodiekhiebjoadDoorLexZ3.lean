/-
  The document's signs.
-/
import Derived.Test.YtmodiekhiebjoadDoorLexZ2
namespace Go.Proofs.YtmodiekhiebjoadDoor
open Go.RowKit

theorem extract_list (s : ByteArray) (i j : Nat) : (s.extract i j).data.toList = (s.data.toList.drop i).take (j - i) := by
  rw [ByteArray.data_extract, Array.toList_extract, List.extract_eq_take_drop]

theorem two_cases (s : ByteArray) (i : Nat) : (∃ l ∈ twoL, ((s.extract i (i + 2)).toList = l)) ∨ ¬ (s.data.toList.drop i).take 2 ∈ twoL := by
  by_cases h : (s.data.toList.drop i).take 2 ∈ twoL
  · refine Or.inl ⟨_, h, ?_⟩
    rw [Lib.toList_data, extract_list, Nat.add_sub_cancel_left]
  · exact Or.inr h
theorem signN_two {l : List UInt8} (h : l.take 2 ∈ twoL) : signN l = 2 := by unfold signN; rw [if_pos h]
theorem two_ne {s : ByteArray} {i : Nat} (h : ¬ (s.data.toList.drop i).take 2 ∈ twoL) {l : List UInt8} (hl : l ∈ twoL) : ((s.extract i (i + 2)).toList == l) = false := by
  rw [Lib.toList_data, extract_list, Nat.add_sub_cancel_left, beq_eq_false_iff_ne]
  intro e
  rw [e] at h
  exact h hl
theorem signN_one {s : ByteArray} {i : Nat} (hi : i < s.size) (h : ¬ (s.data.toList.drop i).take 2 ∈ twoL) : signN (s.data.toList.drop i) = if s[i] ∈ oneS then 1 else 0 := by
  unfold signN
  rw [if_neg h]
  simp only [drop_at s i hi]
theorem short_two {s : ByteArray} {i : Nat} (h : s.size ≤ i + 1) : ¬ (s.data.toList.drop i).take 2 ∈ twoL := by
  intro e
  have hl : ((s.data.toList.drop i).take 2).length = 2 := by
    simp only [twoL, List.mem_cons, List.not_mem_nil, or_false] at e
    rcases e with e | e | e | e | e | e <;> rw [e] <;> rfl
  rw [List.length_take, List.length_drop] at hl
  have h2 : s.data.toList.length = s.size := by simp
  omega
theorem oneS_mem (c : UInt8) : (c ∈ oneS) ↔ (c.toNat = 43 ∨ c.toNat = 45 ∨ c.toNat = 42 ∨ c.toNat = 60 ∨ c.toNat = 62 ∨ c.toNat = 33 ∨ c.toNat = 40 ∨ c.toNat = 41 ∨ c.toNat = 123 ∨ c.toNat = 125 ∨ c.toNat = 59 ∨ c.toNat = 44 ∨ c.toNat = 61) := by
  have e : ∀ n : UInt8, (c = n) ↔ c.toNat = n.toNat := fun n => ⟨fun h => by rw [h], fun h => UInt8.toNat_inj.1 h⟩
  simp only [oneS, List.mem_cons, List.not_mem_nil, or_false, e]
  rfl

set_option maxHeartbeats 1600000 in
theorem rsign_byte (s : ByteArray) (hs : s.size ≤ 4000) (i : Nat) (hi : i < s.size) (h : ¬ (s.data.toList.drop i).take 2 ∈ twoL) (w : World) :
    Calls Tryd.prog 17 #[.string s, .int .i64 (i : Int)] w fun e w' => e = .returned (.int .i64 (signN (s.data.toList.drop i) : Nat)) ∧ w' = w := by
  obtain ⟨r, hr⟩ : ∃ r, r = signN (s.data.toList.drop i) := ⟨_, rfl⟩
  rw [← hr]
  have HR : Hid (r = if s[i] ∈ oneS then 1 else 0) := hr.trans (signN_one hi h)
  clear hr
  by_cases h2 : (i : Int) + 1 < (s.size : Int)
  · have h1 := two_ne h (l := [60, 61]) (by simp [twoL])
    have h2 := two_ne h (l := [62, 61]) (by simp [twoL])
    have h3 := two_ne h (l := [61, 61]) (by simp [twoL])
    have h4 := two_ne h (l := [33, 61]) (by simp [twoL])
    have h5 := two_ne h (l := [38, 38]) (by simp [twoL])
    have h6 := two_ne h (l := [124, 124]) (by simp [twoL])
    clear h
    go_enter Tryd.func17, Tryd.ntmps17
    go_wp2
    all_goals go_ret
    all_goals refine ⟨ret_int ?_, rfl⟩
    all_goals (have e := HR.out; simp only [oneS_mem] at e; simp only [beq_iff_eq, beq_eq_false_iff_ne] at *; split at e <;> omega)
  · clear h
    go_enter Tryd.func17, Tryd.ntmps17
    go_wp2
    all_goals go_ret
    all_goals refine ⟨ret_int ?_, rfl⟩
    all_goals (have e := HR.out; simp only [oneS_mem] at e; simp only [beq_iff_eq, beq_eq_false_iff_ne] at *; split at e <;> omega)

set_option maxHeartbeats 1600000 in
theorem rsign_any (s : ByteArray) (hs : s.size ≤ 4000) (i : Nat) (hi : i < s.size) (w : World) :
    Calls Tryd.prog 17 #[.string s, .int .i64 (i : Int)] w fun e w' => e = .returned (.int .i64 (signN (s.data.toList.drop i) : Nat)) ∧ w' = w := by
  rcases two_cases s i with ⟨l, hl, he⟩ | h
  · have h2 : (i : Int) + 1 < (s.size : Int) := by
      rcases Nat.lt_or_ge (i + 1) s.size with h2 | h2
      · omega
      · exact absurd (by rw [← he, Lib.toList_data, extract_list, Nat.add_sub_cancel_left] at hl; exact hl) (short_two h2)
    have h3 : signN (s.data.toList.drop i) = 2 := signN_two (by rw [← he, Lib.toList_data, extract_list, Nat.add_sub_cancel_left] at hl; exact hl)
    rw [h3]
    clear h3
    simp only [twoL, List.mem_cons, List.not_mem_nil, or_false] at hl
    rcases hl with rfl | rfl | rfl | rfl | rfl | rfl
    all_goals
      first | have e1 : ((s.extract i (i + 2)).toList == [60, 61]) = true := (by rw [he]; rfl) | have e1 : ((s.extract i (i + 2)).toList == [60, 61]) = false := (by rw [he]; rfl)
      first | have e2 : ((s.extract i (i + 2)).toList == [62, 61]) = true := (by rw [he]; rfl) | have e2 : ((s.extract i (i + 2)).toList == [62, 61]) = false := (by rw [he]; rfl)
      first | have e3 : ((s.extract i (i + 2)).toList == [61, 61]) = true := (by rw [he]; rfl) | have e3 : ((s.extract i (i + 2)).toList == [61, 61]) = false := (by rw [he]; rfl)
      first | have e4 : ((s.extract i (i + 2)).toList == [33, 61]) = true := (by rw [he]; rfl) | have e4 : ((s.extract i (i + 2)).toList == [33, 61]) = false := (by rw [he]; rfl)
      first | have e5 : ((s.extract i (i + 2)).toList == [38, 38]) = true := (by rw [he]; rfl) | have e5 : ((s.extract i (i + 2)).toList == [38, 38]) = false := (by rw [he]; rfl)
      first | have e6 : ((s.extract i (i + 2)).toList == [124, 124]) = true := (by rw [he]; rfl) | have e6 : ((s.extract i (i + 2)).toList == [124, 124]) = false := (by rw [he]; rfl)
      clear he
      go_enter Tryd.func17, Tryd.ntmps17
      go_wp2
      go_ret
      exact ⟨rfl, rfl⟩
  · exact rsign_byte s hs i hi h w

end Go.Proofs.YtmodiekhiebjoadDoor
