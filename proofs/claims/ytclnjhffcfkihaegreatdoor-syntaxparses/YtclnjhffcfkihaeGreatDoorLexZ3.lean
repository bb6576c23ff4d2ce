/-
  The document's signs.
  The document's one token.
-/
import Derived.Test.YtclnjhffcfkihaeGreatDoorLexZ2
namespace Go.Proofs.YtclnjhffcfkihaeGreatDoor
section
open Go.RowKit

theorem ext_list (s : ByteArray) (i j : Nat) : (s.extract i j).data.toList = (s.data.toList.drop i).take (j - i) := by
  rw [ByteArray.data_extract, Array.toList_extract, List.extract_eq_take_drop]

theorem two_cases (s : ByteArray) (i : Nat) : (∃ l ∈ twoL, ((s.extract i (i + 2)).toList = l)) ∨ ¬ (s.data.toList.drop i).take 2 ∈ twoL := by
  by_cases h : (s.data.toList.drop i).take 2 ∈ twoL
  · refine Or.inl ⟨_, h, ?_⟩
    rw [Lib.toList_data, ext_list, Nat.add_sub_cancel_left]
  · exact Or.inr h
theorem signN_two {l : List UInt8} (h : l.take 2 ∈ twoL) : signN l = 2 := by unfold signN; rw [if_pos h]
theorem two_ne {s : ByteArray} {i : Nat} (h : ¬ (s.data.toList.drop i).take 2 ∈ twoL) {l : List UInt8} (hl : l ∈ twoL) : ((s.extract i (i + 2)).toList == l) = false := by
  rw [Lib.toList_data, ext_list, Nat.add_sub_cancel_left, beq_eq_false_iff_ne]
  intro e
  rw [e] at h
  exact h hl
theorem signN_one {s : ByteArray} {i : Nat} (hi : i < s.size) (h : ¬ (s.data.toList.drop i).take 2 ∈ twoL) : signN (s.data.toList.drop i) = if s[i] ∈ oneS then 1 else 0 := by
  unfold signN
  rw [if_neg h]
  simp only [drop_at s i hi]
theorem short_two {s : ByteArray} {i : Nat} (h : s.size ≤ i + 1) : ¬ (s.data.toList.drop i).take 2 ∈ twoL := by
  intro e
  have hl : ((s.data.toList.drop i).take 2).length = 2 := by
    simp only [twoL, List.mem_cons, List.not_mem_nil, or_false] at e
    rcases e with e | e | e | e | e | e <;> rw [e] <;> rfl
  rw [List.length_take, List.length_drop] at hl
  have h2 : s.data.toList.length = s.size := by simp
  omega
theorem oneS_mem (c : UInt8) : (c ∈ oneS) ↔ (c.toNat = 43 ∨ c.toNat = 45 ∨ c.toNat = 42 ∨ c.toNat = 60 ∨ c.toNat = 62 ∨ c.toNat = 33 ∨ c.toNat = 40 ∨ c.toNat = 41 ∨ c.toNat = 123 ∨ c.toNat = 125 ∨ c.toNat = 59 ∨ c.toNat = 44 ∨ c.toNat = 61) := by
  have e : ∀ n : UInt8, (c = n) ↔ c.toNat = n.toNat := fun n => ⟨fun h => by rw [h], fun h => UInt8.toNat_inj.1 h⟩
  simp only [oneS, List.mem_cons, List.not_mem_nil, or_false, e]
  rfl

set_option maxRecDepth 100000 in
set_option maxHeartbeats 1600000 in
theorem rsign_byte (s : ByteArray) (hs : s.size ≤ 4000) (i : Nat) (hi : i < s.size) (h : ¬ (s.data.toList.drop i).take 2 ∈ twoL) (w : World) :
    Calls Tryz.prog 65 #[.string s, .int .i64 (i : Int)] w fun e w' => e = .returned (.int .i64 (signN (s.data.toList.drop i) : Nat)) ∧ w' = w := by
  obtain ⟨r, hr⟩ : ∃ r, r = signN (s.data.toList.drop i) := ⟨_, rfl⟩
  rw [← hr]
  have HR : Hid (r = if s[i] ∈ oneS then 1 else 0) := hr.trans (signN_one hi h)
  clear hr
  by_cases h2 : (i : Int) + 1 < (s.size : Int)
  · have h1 := two_ne h (l := [60, 61]) (by simp [twoL])
    have h2 := two_ne h (l := [62, 61]) (by simp [twoL])
    have h3 := two_ne h (l := [61, 61]) (by simp [twoL])
    have h4 := two_ne h (l := [33, 61]) (by simp [twoL])
    have h5 := two_ne h (l := [38, 38]) (by simp [twoL])
    have h6 := two_ne h (l := [124, 124]) (by simp [twoL])
    clear h
    go_enter Tryz.func65, Tryz.ntmps65
    go_wp2
    all_goals go_ret
    all_goals refine ⟨ret_int ?_, rfl⟩
    all_goals (have e := HR.out; simp only [oneS_mem] at e; simp only [beq_iff_eq, beq_eq_false_iff_ne] at *; split at e <;> omega)
  · clear h
    go_enter Tryz.func65, Tryz.ntmps65
    go_wp2
    all_goals go_ret
    all_goals refine ⟨ret_int ?_, rfl⟩
    all_goals (have e := HR.out; simp only [oneS_mem] at e; simp only [beq_iff_eq, beq_eq_false_iff_ne] at *; split at e <;> omega)

set_option maxRecDepth 100000 in
set_option maxHeartbeats 1600000 in
theorem rsign_any (s : ByteArray) (hs : s.size ≤ 4000) (i : Nat) (hi : i < s.size) (w : World) :
    Calls Tryz.prog 65 #[.string s, .int .i64 (i : Int)] w fun e w' => e = .returned (.int .i64 (signN (s.data.toList.drop i) : Nat)) ∧ w' = w := by
  rcases two_cases s i with ⟨l, hl, he⟩ | h
  · have h2 : (i : Int) + 1 < (s.size : Int) := by
      rcases Nat.lt_or_ge (i + 1) s.size with h2 | h2
      · omega
      · exact absurd (by rw [← he, Lib.toList_data, ext_list, Nat.add_sub_cancel_left] at hl; exact hl) (short_two h2)
    have h3 : signN (s.data.toList.drop i) = 2 := signN_two (by rw [← he, Lib.toList_data, ext_list, Nat.add_sub_cancel_left] at hl; exact hl)
    rw [h3]
    clear h3
    simp only [twoL, List.mem_cons, List.not_mem_nil, or_false] at hl
    rcases hl with rfl | rfl | rfl | rfl | rfl | rfl
    all_goals
      first | have e1 : ((s.extract i (i + 2)).toList == [60, 61]) = true := (by rw [he]; rfl) | have e1 : ((s.extract i (i + 2)).toList == [60, 61]) = false := (by rw [he]; rfl)
      first | have e2 : ((s.extract i (i + 2)).toList == [62, 61]) = true := (by rw [he]; rfl) | have e2 : ((s.extract i (i + 2)).toList == [62, 61]) = false := (by rw [he]; rfl)
      first | have e3 : ((s.extract i (i + 2)).toList == [61, 61]) = true := (by rw [he]; rfl) | have e3 : ((s.extract i (i + 2)).toList == [61, 61]) = false := (by rw [he]; rfl)
      first | have e4 : ((s.extract i (i + 2)).toList == [33, 61]) = true := (by rw [he]; rfl) | have e4 : ((s.extract i (i + 2)).toList == [33, 61]) = false := (by rw [he]; rfl)
      first | have e5 : ((s.extract i (i + 2)).toList == [38, 38]) = true := (by rw [he]; rfl) | have e5 : ((s.extract i (i + 2)).toList == [38, 38]) = false := (by rw [he]; rfl)
      first | have e6 : ((s.extract i (i + 2)).toList == [124, 124]) = true := (by rw [he]; rfl) | have e6 : ((s.extract i (i + 2)).toList == [124, 124]) = false := (by rw [he]; rfl)
      clear he
      go_enter Tryz.func65, Tryz.ntmps65
      go_wp2
      go_ret
      exact ⟨rfl, rfl⟩
  · exact rsign_byte s hs i hi h w
end

section
open Go.RowKit

/-- How many bytes from k on are such. -/
def twAt (p : UInt8 → Bool) (s : ByteArray) (k : Nat) : Nat := ((s.data.toList.drop k).takeWhile p).length
section
variable {p : UInt8 → Bool} {s : ByteArray} {k : Nat}
theorem twAt_end (h : s.size ≤ k) : twAt p s k = 0 := by rw [twAt, drop_over s k h]; rfl
theorem twAt_stop (h : k < s.size) (hp : p s[k] = false) : twAt p s k = 0 := by
  rw [twAt, drop_at s k h, List.takeWhile_cons_of_neg (by simp [hp])]; rfl
theorem twAt_more (h : k < s.size) (hp : p s[k] = true) : twAt p s k = twAt p s (k + 1) + 1 := by
  rw [twAt, drop_at s k h, List.takeWhile_cons_of_pos hp]; rfl
theorem twAt_le (h : k ≤ s.size) : k + twAt p s k ≤ s.size := by
  have h1 := takeWhile_le p (s.data.toList.drop k)
  have hl : s.data.toList.length = s.size := by simp
  rw [List.length_drop, hl] at h1
  unfold twAt
  omega
theorem twAt_text (h : k < s.size) : (s.extract k (k + (1 + twAt p s (k + 1)))).data.toList = s[k] :: (s.data.toList.drop (k + 1)).takeWhile p := by
  rw [ext_list, Nat.add_sub_cancel_left, drop_at s k h, Nat.add_comm 1, List.take_succ_cons, twAt, takeWhile_take]
end

/-- A token that is told, and none. -/
def OneQ (s : ByteArray) (i : Nat) (e : Ending) : Prop :=
  match oneL (s.data.toList.drop i) with
  | none => e = .returned (.tuple #[.agg #[.int .i64 0, .int .i64 0, .int .i64 0, .string ⟨#[]⟩], .int .i64 0, .int .i64 5])
  | some (k, v, m) => e = .returned (.tuple #[.agg #[.int .i64 k, .int .i64 v, .int .i64 i, .string (s.extract i (i + m))], .int .i64 m, .int .i64 0])

theorem oneL_name {s : ByteArray} {i N : Nat} (hi : i < s.size) (hl : isLet s[i] = true) (hN : 1 + twAt isNam s (i + 1) = N) :
    oneL (s.data.toList.drop i) = if 12 < N then none else some (kindW (s.extract i (i + N)).data.toList, 0, N) := by
  subst hN
  rw [twAt_text hi, drop_at s i hi, oneL, if_pos hl]
  rfl
theorem oneL_num {s : ByteArray} {i N : Nat} (hi : i < s.size) (hl : isLet s[i] = false) (hd : isDig s[i] = true) (hN : 1 + twAt isDig s (i + 1) = N) :
    oneL (s.data.toList.drop i) = if 9 < N ∨ (1 < N ∧ s[i].toNat = 48) then none else some (3, (mag (s.extract i (i + N)).data.toList : Int), N) := by
  subst hN
  rw [twAt_text hi, drop_at s i hi, oneL, if_neg (by simp [hl]), if_pos hd]
  rfl
theorem oneL_sign {s : ByteArray} {i : Nat} (hi : i < s.size) (hl : isLet s[i] = false) (hd : isDig s[i] = false) :
    oneL (s.data.toList.drop i) = if signN (s.data.toList.drop i) = 0 then none else some (4, 0, signN (s.data.toList.drop i)) := by
  rw [drop_at s i hi, oneL, if_neg (by simp [hl]), if_neg (by simp [hd])]

set_option maxRecDepth 100000 in
set_option maxHeartbeats 1600000 in
theorem rone_name (s : ByteArray) (hs : s.size ≤ 4000) (i : Nat) (hi : i < s.size) (hl : isLet s[i] = true) (N : Nat) (HN : Hid (1 + twAt isNam s (i + 1) = N)) (w : World) :
    Calls Tryz.prog 34 #[.string s, .int .i64 (i : Int)] w fun e w' => OneQ s i e ∧ Below w.heap.size w w' := by
  have hq : ∀ e, OneQ s i e = (match (if 12 < N then none else some (kindW (s.extract i (i + N)).data.toList, (0 : Int), N)) with
      | none => e = .returned (.tuple #[.agg #[.int .i64 0, .int .i64 0, .int .i64 0, .string ⟨#[]⟩], .int .i64 0, .int .i64 5])
      | some (k, v, m) => e = .returned (.tuple #[.agg #[.int .i64 k, .int .i64 v, .int .i64 i, .string (s.extract i (i + m))], .int .i64 m, .int .i64 0])) := fun e => by
    unfold OneQ; rw [oneL_name hi hl HN.out]
  have HQ := Hid.out (p := Hid _) hq
  clear hq
  go_enter Tryz.func34, Tryz.ntmps34
  go_wp2_with (first | (go_at_call 62; refine (rlet_any s[i] _).mono ?_; rintro e w' ⟨rfl, rfl⟩; rw [hl]))
  go_loop [7] (fun n => ∃ k : Nat, 1 ≤ k ∧ i + k ≤ s.size ∧ n = .int .i64 k ∧ Hid (k + twAt isNam s (i + k) = N)) (fun n => s.size - (intOf n).toNat)
  case atStart => exact ⟨1, Nat.le_refl _, hi, rfl, HN⟩
  case round =>
    obtain ⟨k, hk1, hk, rfl, HK⟩ := hrel
    by_cases hlt : i + k < s.size
    · have hlt' : (i : Int) + (k : Int) < (s.size : Int) := by omega
      cases ha : isLet s[i + k] with
      | true =>
        have HN' : Hid (k + 1 + twAt isNam s (i + (k + 1)) = N) := by
          have := HK.out
          rw [twAt_more hlt (by simp [isNam, ha])] at this
          show _ = _
          rw [← this, ← Nat.add_assoc]; omega
        cases hb : isDig s[i + k]
        all_goals
          go_wp2_with (first | (go_at_call 62; refine (rlet_any s[i + k] _).mono ?_; rintro e w' ⟨rfl, rfl⟩; rw [ha]) | (go_at_call 63; refine (rdig_any s[i + k] _).mono ?_; rintro e w' ⟨rfl, rfl⟩; rw [hb]))
          go_round
          case rel => exact ⟨k + 1, by omega, by omega, by go_num, HN'⟩
          case measure => simp [intOf]; omega
      | false =>
        cases hb : isDig s[i + k] with
        | true =>
          have HN' : Hid (k + 1 + twAt isNam s (i + (k + 1)) = N) := by
            have := HK.out
            rw [twAt_more hlt (by simp [isNam, hb])] at this
            show _ = _
            rw [← this, ← Nat.add_assoc]; omega
          go_wp2_with (first | (go_at_call 62; refine (rlet_any s[i + k] _).mono ?_; rintro e w' ⟨rfl, rfl⟩; rw [ha]) | (go_at_call 63; refine (rdig_any s[i + k] _).mono ?_; rintro e w' ⟨rfl, rfl⟩; rw [hb]))
          go_round
          case rel => exact ⟨k + 1, by omega, by omega, by go_num, HN'⟩
          case measure => simp [intOf]; omega
        | false =>
          have hkN : k = N := by
            have := HK.out
            rw [twAt_stop hlt (by simp [isNam, ha, hb])] at this
            omega
          subst hkN
          have hle : (i : Int) + (k : Int) ≤ (s.size : Int) := by omega
          clear HK HN
          cases hw : isWord (s.extract i (i + k)).data.toList with
          | true =>
            have h12 : ¬ 12 < k := by
              have := word_len hw
              rw [ext_list, Nat.add_sub_cancel_left, List.length_take, List.length_drop] at this
              have hl : s.data.toList.length = s.size := by simp
              omega
            have HQ' : Hid (∀ e, OneQ s i e = (e = .returned (.tuple #[.agg #[.int .i64 2, .int .i64 0, .int .i64 i, .string (s.extract i (i + k))], .int .i64 k, .int .i64 0]))) := fun e => by rw [HQ.out e, if_neg h12, kindW, hw]; rfl
            clear HQ
            go_wp2_with (first | (go_at_call 62; refine (rlet_any s[i + k] _).mono ?_; rintro e w' ⟨rfl, rfl⟩; rw [ha]) | (go_at_call 63; refine (rdig_any s[i + k] _).mono ?_; rintro e w' ⟨rfl, rfl⟩; rw [hb]) | (go_at_call 64; refine (rword_any _ _).mono ?_; rintro e w' ⟨rfl, rfl⟩; rw [hw]))
            exact bodyPost_ret (v := (.tuple #[.agg #[.int .i64 2, .int .i64 0, .int .i64 i, .string (s.extract i (i + k))], .int .i64 k, .int .i64 0])) (by simp [results, Tryz.results34, go_sem]) rfl ⟨by rw [HQ'.out], (Below.refl _ _).alloc (Nat.le_refl _) _⟩
          | false =>
            by_cases h12 : 12 < k
            · have HQ' : Hid (∀ e, OneQ s i e = (e = .returned (.tuple #[.agg #[.int .i64 0, .int .i64 0, .int .i64 0, .string ⟨#[]⟩], .int .i64 0, .int .i64 5]))) := fun e => by rw [HQ.out e, if_pos h12]
              have h12' : 12 < (k : Int) := by omega
              clear HQ
              go_wp2_with (first | (go_at_call 62; refine (rlet_any s[i + k] _).mono ?_; rintro e w' ⟨rfl, rfl⟩; rw [ha]) | (go_at_call 63; refine (rdig_any s[i + k] _).mono ?_; rintro e w' ⟨rfl, rfl⟩; rw [hb]) | (go_at_call 64; refine (rword_any _ _).mono ?_; rintro e w' ⟨rfl, rfl⟩; rw [hw]))
              exact bodyPost_ret (v := (.tuple #[.agg #[.int .i64 0, .int .i64 0, .int .i64 0, .string ⟨#[]⟩], .int .i64 0, .int .i64 5])) (by simp [results, Tryz.results34, go_sem]) rfl ⟨by rw [HQ'.out], (Below.refl _ _).alloc (Nat.le_refl _) _⟩
            · have HQ' : Hid (∀ e, OneQ s i e = (e = .returned (.tuple #[.agg #[.int .i64 1, .int .i64 0, .int .i64 i, .string (s.extract i (i + k))], .int .i64 k, .int .i64 0]))) := fun e => by rw [HQ.out e, if_neg h12, kindW, hw]; rfl
              have h12' : ¬ 12 < (k : Int) := by omega
              clear HQ
              go_wp2_with (first | (go_at_call 62; refine (rlet_any s[i + k] _).mono ?_; rintro e w' ⟨rfl, rfl⟩; rw [ha]) | (go_at_call 63; refine (rdig_any s[i + k] _).mono ?_; rintro e w' ⟨rfl, rfl⟩; rw [hb]) | (go_at_call 64; refine (rword_any _ _).mono ?_; rintro e w' ⟨rfl, rfl⟩; rw [hw]))
              exact bodyPost_ret (v := (.tuple #[.agg #[.int .i64 1, .int .i64 0, .int .i64 i, .string (s.extract i (i + k))], .int .i64 k, .int .i64 0])) (by simp [results, Tryz.results34, go_sem]) rfl ⟨by rw [HQ'.out], (Below.refl _ _).alloc (Nat.le_refl _) _⟩
    · have hlt' : ¬ (i : Int) + (k : Int) < (s.size : Int) := by omega
      have hkN : k = N := by
        have := HK.out
        rw [twAt_end (by omega)] at this
        omega
      subst hkN
      have hle : (i : Int) + (k : Int) ≤ (s.size : Int) := by omega
      clear HK HN
      cases hw : isWord (s.extract i (i + k)).data.toList with
      | true =>
        have h12 : ¬ 12 < k := by
          have := word_len hw
          rw [ext_list, Nat.add_sub_cancel_left, List.length_take, List.length_drop] at this
          have hl : s.data.toList.length = s.size := by simp
          omega
        have HQ' : Hid (∀ e, OneQ s i e = (e = .returned (.tuple #[.agg #[.int .i64 2, .int .i64 0, .int .i64 i, .string (s.extract i (i + k))], .int .i64 k, .int .i64 0]))) := fun e => by rw [HQ.out e, if_neg h12, kindW, hw]; rfl
        clear HQ
        go_wp2_with (first | (go_at_call 64; refine (rword_any _ _).mono ?_; rintro e w' ⟨rfl, rfl⟩; rw [hw]))
        exact bodyPost_ret (v := (.tuple #[.agg #[.int .i64 2, .int .i64 0, .int .i64 i, .string (s.extract i (i + k))], .int .i64 k, .int .i64 0])) (by simp [results, Tryz.results34, go_sem]) rfl ⟨by rw [HQ'.out], (Below.refl _ _).alloc (Nat.le_refl _) _⟩
      | false =>
        by_cases h12 : 12 < k
        · have HQ' : Hid (∀ e, OneQ s i e = (e = .returned (.tuple #[.agg #[.int .i64 0, .int .i64 0, .int .i64 0, .string ⟨#[]⟩], .int .i64 0, .int .i64 5]))) := fun e => by rw [HQ.out e, if_pos h12]
          have h12' : 12 < (k : Int) := by omega
          clear HQ
          go_wp2_with (first | (go_at_call 64; refine (rword_any _ _).mono ?_; rintro e w' ⟨rfl, rfl⟩; rw [hw]))
          exact bodyPost_ret (v := (.tuple #[.agg #[.int .i64 0, .int .i64 0, .int .i64 0, .string ⟨#[]⟩], .int .i64 0, .int .i64 5])) (by simp [results, Tryz.results34, go_sem]) rfl ⟨by rw [HQ'.out], (Below.refl _ _).alloc (Nat.le_refl _) _⟩
        · have HQ' : Hid (∀ e, OneQ s i e = (e = .returned (.tuple #[.agg #[.int .i64 1, .int .i64 0, .int .i64 i, .string (s.extract i (i + k))], .int .i64 k, .int .i64 0]))) := fun e => by rw [HQ.out e, if_neg h12, kindW, hw]; rfl
          have h12' : ¬ 12 < (k : Int) := by omega
          clear HQ
          go_wp2_with (first | (go_at_call 64; refine (rword_any _ _).mono ?_; rintro e w' ⟨rfl, rfl⟩; rw [hw]))
          exact bodyPost_ret (v := (.tuple #[.agg #[.int .i64 1, .int .i64 0, .int .i64 i, .string (s.extract i (i + k))], .int .i64 k, .int .i64 0])) (by simp [results, Tryz.results34, go_sem]) rfl ⟨by rw [HQ'.out], (Below.refl _ _).alloc (Nat.le_refl _) _⟩
end

end Go.Proofs.YtclnjhffcfkihaeGreatDoor
