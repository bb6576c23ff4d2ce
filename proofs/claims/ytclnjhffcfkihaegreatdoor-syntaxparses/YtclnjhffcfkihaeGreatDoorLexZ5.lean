/-
  The document's one token: numbers.
-/
import Derived.Test.YtclnjhffcfkihaeGreatDoorLexZ3
namespace Go.Proofs.YtclnjhffcfkihaeGreatDoor
open Go.RowKit

theorem wrap64_is {n : Int} (h : -9223372036854775808 ≤ n ∧ n ≤ 9223372036854775807) : wrap64 n = n := by unfold wrap64; omega
theorem take_more (s : ByteArray) (i k : Nat) (h : i + k < s.size) : (s.data.toList.drop i).take (k + 1) = (s.data.toList.drop i).take k ++ [s[i + k]] := by
  have hl : s.data.toList.length = s.size := by simp
  rw [List.take_succ_eq_append_getElem (by rw [List.length_drop, hl]; omega)]
  simp only [List.getElem_drop]
  rfl
theorem mag_nine (l : List UInt8) (h : l.all isDig = true) (k : Nat) : mag (l.take (min k 9)) < 1000000000 := by
  have h1 := magFrom_lt (l.take (min k 9)) 0 (by rw [List.all_eq_true] at h ⊢; exact fun x hx => h x (List.mem_of_mem_take hx))
  have h2 : 10 ^ (l.take (min k 9)).length ≤ 10 ^ 9 := Nat.pow_le_pow_right (by omega) (by rw [List.length_take]; omega)
  have h3 : magFrom 0 (l.take (min k 9)) = mag (l.take (min k 9)) := rfl
  omega

theorem nine_of {l : List UInt8} {k m : Nat} (hm : m = mag (l.take (min k 9))) (ha : (l.take k).all isDig = true) : m < 1000000000 := by
  have := mag_nine _ ha k
  rw [List.take_take, Nat.min_eq_left (by omega), ← hm] at this
  exact this

set_option maxRecDepth 100000 in
set_option maxHeartbeats 3200000 in
theorem rone_num (s : ByteArray) (hs : s.size ≤ 4000) (i : Nat) (hi : i < s.size) (hl : isLet s[i] = false) (hd : isDig s[i] = true) (N : Nat) (HN : Hid (1 + twAt isDig s (i + 1) = N)) (w : World) :
    Calls Tryz.prog 34 #[.string s, .int .i64 (i : Int)] w fun e w' => OneQ s i e ∧ Below w.heap.size w w' := by
  have hq : ∀ e, OneQ s i e = (match (if 9 < N ∨ (1 < N ∧ s[i].toNat = 48) then none else some ((3 : Int), (mag (s.extract i (i + N)).data.toList : Int), N)) with
      | none => e = .returned (.tuple #[.agg #[.int .i64 0, .int .i64 0, .int .i64 0, .string ⟨#[]⟩], .int .i64 0, .int .i64 5])
      | some (k, v, m) => e = .returned (.tuple #[.agg #[.int .i64 k, .int .i64 v, .int .i64 i, .string (s.extract i (i + m))], .int .i64 m, .int .i64 0])) := fun e => by
    unfold OneQ; rw [oneL_num hi hl hd HN.out]; rfl
  have HQ := Hid.out (p := Hid _) hq
  clear hq
  have hd1 : 48 ≤ (s[i].toNat : Int) := by simp [isDig] at hd; omega
  have hd2 : (s[i].toNat : Int) ≤ 57 := by simp [isDig] at hd; omega
  have HA0 : Hid (((s.data.toList.drop i).take 1).all isDig = true) := by
    show _ = _
    rw [drop_at s i hi]; simp [hd]
  have HM0 : Hid (s[i].toNat - 48 = mag ((s.data.toList.drop i).take (min 1 9))) := by
    show _ = _
    rw [drop_at s i hi]; simp [mag]
  go_enter Tryz.func34, Tryz.ntmps34
  go_wp2_with (first | (go_at_call 62; refine (rlet_any s[i] _).mono ?_; rintro e w' ⟨rfl, rfl⟩; rw [hl]) | (go_at_call 63; refine (rdig_any s[i] _).mono ?_; rintro e w' ⟨rfl, rfl⟩; rw [hd]))
  go_loop [7, 12] (fun n v => ∃ k m : Nat, 1 ≤ k ∧ i + k ≤ s.size ∧ n = .int .i64 k ∧ v = .int .i64 (m : Int) ∧ Hid (k + twAt isDig s (i + k) = N) ∧ Hid (m = mag ((s.data.toList.drop i).take (min k 9))) ∧ Hid (((s.data.toList.drop i).take k).all isDig = true)) (fun n _ => s.size - (intOf n).toNat)
  case atStart => exact ⟨1, s[i].toNat - 48, Nat.le_refl _, hi, rfl, by go_num, HN, HM0, HA0⟩
  case round =>
    obtain ⟨k, m, hk1, hk, rfl, rfl, HK, HM, HA⟩ := hrel
    by_cases hlt : i + k < s.size
    · have hlt' : (i : Int) + (k : Int) < (s.size : Int) := by omega
      cases hb : isDig s[i + k] with
      | true =>
        have hb1 : 48 ≤ (s[i + k].toNat : Int) := by simp [isDig] at hb; omega
        have hb2 : (s[i + k].toNat : Int) ≤ 57 := by simp [isDig] at hb; omega
        have HN' : Hid (k + 1 + twAt isDig s (i + (k + 1)) = N) := by
          have := HK.out
          rw [twAt_more hlt hb] at this
          show _ = _
          rw [← this, ← Nat.add_assoc]; omega
        have HA' : Hid (((s.data.toList.drop i).take (k + 1)).all isDig = true) := by
          show _ = _
          rw [take_more s i k hlt, List.all_append, HA.out]; simp [hb]
        by_cases h9 : (k : Int) < 9
        · have HM' : Hid (m * 10 + (s[i + k].toNat - 48) = mag ((s.data.toList.drop i).take (min (k + 1) 9))) := by
            have := HM.out
            show _ = _
            rw [Nat.min_eq_left (by omega)] at this ⊢
            rw [take_more s i k hlt, mag_snoc, this]
          clear HK
          go_wp2_with (first | (go_at_call 63; refine (rdig_any s[i + k] _).mono ?_; rintro e w' ⟨rfl, rfl⟩; rw [hb]))
          have hm9 := nine_of HM.out HA.out
          go_round
          case rel => exact ⟨k + 1, m * 10 + (s[i + k].toNat - 48), by omega, by omega, by go_num, by rw [wrap64_is (n := 10 * (m : Int)) (by omega), wrap64_is (by omega)]; congr 1; omega, HN', HM', HA'⟩
          case measure => simp [intOf]; omega
        · have HM' : Hid (m = mag ((s.data.toList.drop i).take (min (k + 1) 9))) := by
            have := HM.out
            show _ = _
            rw [Nat.min_eq_right (by omega)] at this ⊢
            exact this
          clear HK
          go_wp2_with (first | (go_at_call 63; refine (rdig_any s[i + k] _).mono ?_; rintro e w' ⟨rfl, rfl⟩; rw [hb]))
          go_round
          case rel => exact ⟨k + 1, m, by omega, by omega, by go_num, rfl, HN', HM', HA'⟩
          case measure => simp [intOf]; omega
      | false =>
        have hkN : k = N := by
          have := HK.out
          rw [twAt_stop hlt hb] at this
          omega
        subst hkN
        have hle : (i : Int) + (k : Int) ≤ (s.size : Int) := by omega
        clear HK HN
        by_cases h9 : 9 < k
        · have HQ' : Hid (∀ e, OneQ s i e = (e = .returned (.tuple #[.agg #[.int .i64 0, .int .i64 0, .int .i64 0, .string ⟨#[]⟩], .int .i64 0, .int .i64 5]))) := fun e => by rw [HQ.out e, if_pos (Or.inl h9)]
          have h9' : 9 < (k : Int) := by omega
          clear HQ HM HA
          go_wp2_with (first | (go_at_call 63; refine (rdig_any s[i + k] _).mono ?_; rintro e w' ⟨rfl, rfl⟩; rw [hb]))
          exact bodyPost_ret (v := (.tuple #[.agg #[.int .i64 0, .int .i64 0, .int .i64 0, .string ⟨#[]⟩], .int .i64 0, .int .i64 5])) (by simp [results, Tryz.results34, go_sem]) rfl ⟨by rw [HQ'.out], (Below.refl _ _).alloc (Nat.le_refl _) _⟩
        · have h9' : ¬ 9 < (k : Int) := by omega
          have hm : m = mag (s.extract i (i + k)).data.toList := by
            rw [HM.out, ext_list, Nat.add_sub_cancel_left, Nat.min_eq_left (by omega)]
          by_cases h1 : 1 < k
          · have h1' : 1 < (k : Int) := by omega
            by_cases h48 : s[i].toNat = 48
            · have HQ' : Hid (∀ e, OneQ s i e = (e = .returned (.tuple #[.agg #[.int .i64 0, .int .i64 0, .int .i64 0, .string ⟨#[]⟩], .int .i64 0, .int .i64 5]))) := fun e => by rw [HQ.out e, if_pos (Or.inr ⟨h1, h48⟩)]
              have e48 : ((s[i].toNat : Int) == 48) = true := by simp; omega
              clear HQ HM HA h48 hm
              go_wp2_with (first | (go_at_call 63; refine (rdig_any s[i + k] _).mono ?_; rintro e w' ⟨rfl, rfl⟩; rw [hb]))
              exact bodyPost_ret (v := (.tuple #[.agg #[.int .i64 0, .int .i64 0, .int .i64 0, .string ⟨#[]⟩], .int .i64 0, .int .i64 5])) (by simp [results, Tryz.results34, go_sem]) rfl ⟨by rw [HQ'.out], (Below.refl _ _).alloc (Nat.le_refl _) _⟩
            · have HQ' : Hid (∀ e, OneQ s i e = (e = .returned (.tuple #[.agg #[.int .i64 3, .int .i64 (m : Int), .int .i64 i, .string (s.extract i (i + k))], .int .i64 k, .int .i64 0]))) := fun e => by rw [HQ.out e, if_neg (by omega), hm]
              have e48 : ((s[i].toNat : Int) == 48) = false := by rw [beq_eq_false_iff_ne]; omega
              clear HQ HM HA h48 hm
              go_wp2_with (first | (go_at_call 63; refine (rdig_any s[i + k] _).mono ?_; rintro e w' ⟨rfl, rfl⟩; rw [hb]))
              exact bodyPost_ret (v := (.tuple #[.agg #[.int .i64 3, .int .i64 (m : Int), .int .i64 i, .string (s.extract i (i + k))], .int .i64 k, .int .i64 0])) (by simp [results, Tryz.results34, go_sem]) rfl ⟨by rw [HQ'.out], (Below.refl _ _).alloc (Nat.le_refl _) _⟩
          · have h1' : ¬ 1 < (k : Int) := by omega
            have HQ' : Hid (∀ e, OneQ s i e = (e = .returned (.tuple #[.agg #[.int .i64 3, .int .i64 (m : Int), .int .i64 i, .string (s.extract i (i + k))], .int .i64 k, .int .i64 0]))) := fun e => by rw [HQ.out e, if_neg (by omega), hm]
            clear HQ HM HA hm
            go_wp2_with (first | (go_at_call 63; refine (rdig_any s[i + k] _).mono ?_; rintro e w' ⟨rfl, rfl⟩; rw [hb]))
            exact bodyPost_ret (v := (.tuple #[.agg #[.int .i64 3, .int .i64 (m : Int), .int .i64 i, .string (s.extract i (i + k))], .int .i64 k, .int .i64 0])) (by simp [results, Tryz.results34, go_sem]) rfl ⟨by rw [HQ'.out], (Below.refl _ _).alloc (Nat.le_refl _) _⟩
    · have hlt' : ¬ (i : Int) + (k : Int) < (s.size : Int) := by omega
      have hkN : k = N := by
        have := HK.out
        rw [twAt_end (by omega)] at this
        omega
      subst hkN
      have hle : (i : Int) + (k : Int) ≤ (s.size : Int) := by omega
      clear HK HN
      by_cases h9 : 9 < k
      · have HQ' : Hid (∀ e, OneQ s i e = (e = .returned (.tuple #[.agg #[.int .i64 0, .int .i64 0, .int .i64 0, .string ⟨#[]⟩], .int .i64 0, .int .i64 5]))) := fun e => by rw [HQ.out e, if_pos (Or.inl h9)]
        have h9' : 9 < (k : Int) := by omega
        clear HQ HM HA
        go_wp2_with (first | fail)
        exact bodyPost_ret (v := (.tuple #[.agg #[.int .i64 0, .int .i64 0, .int .i64 0, .string ⟨#[]⟩], .int .i64 0, .int .i64 5])) (by simp [results, Tryz.results34, go_sem]) rfl ⟨by rw [HQ'.out], (Below.refl _ _).alloc (Nat.le_refl _) _⟩
      · have h9' : ¬ 9 < (k : Int) := by omega
        have hm : m = mag (s.extract i (i + k)).data.toList := by
          rw [HM.out, ext_list, Nat.add_sub_cancel_left, Nat.min_eq_left (by omega)]
        by_cases h1 : 1 < k
        · have h1' : 1 < (k : Int) := by omega
          by_cases h48 : s[i].toNat = 48
          · have HQ' : Hid (∀ e, OneQ s i e = (e = .returned (.tuple #[.agg #[.int .i64 0, .int .i64 0, .int .i64 0, .string ⟨#[]⟩], .int .i64 0, .int .i64 5]))) := fun e => by rw [HQ.out e, if_pos (Or.inr ⟨h1, h48⟩)]
            have e48 : ((s[i].toNat : Int) == 48) = true := by simp; omega
            clear HQ HM HA h48 hm
            go_wp2_with (first | fail)
            exact bodyPost_ret (v := (.tuple #[.agg #[.int .i64 0, .int .i64 0, .int .i64 0, .string ⟨#[]⟩], .int .i64 0, .int .i64 5])) (by simp [results, Tryz.results34, go_sem]) rfl ⟨by rw [HQ'.out], (Below.refl _ _).alloc (Nat.le_refl _) _⟩
          · have HQ' : Hid (∀ e, OneQ s i e = (e = .returned (.tuple #[.agg #[.int .i64 3, .int .i64 (m : Int), .int .i64 i, .string (s.extract i (i + k))], .int .i64 k, .int .i64 0]))) := fun e => by rw [HQ.out e, if_neg (by omega), hm]
            have e48 : ((s[i].toNat : Int) == 48) = false := by rw [beq_eq_false_iff_ne]; omega
            clear HQ HM HA h48 hm
            go_wp2_with (first | fail)
            exact bodyPost_ret (v := (.tuple #[.agg #[.int .i64 3, .int .i64 (m : Int), .int .i64 i, .string (s.extract i (i + k))], .int .i64 k, .int .i64 0])) (by simp [results, Tryz.results34, go_sem]) rfl ⟨by rw [HQ'.out], (Below.refl _ _).alloc (Nat.le_refl _) _⟩
        · have h1' : ¬ 1 < (k : Int) := by omega
          have HQ' : Hid (∀ e, OneQ s i e = (e = .returned (.tuple #[.agg #[.int .i64 3, .int .i64 (m : Int), .int .i64 i, .string (s.extract i (i + k))], .int .i64 k, .int .i64 0]))) := fun e => by rw [HQ.out e, if_neg (by omega), hm]
          clear HQ HM HA hm
          go_wp2_with (first | fail)
          exact bodyPost_ret (v := (.tuple #[.agg #[.int .i64 3, .int .i64 (m : Int), .int .i64 i, .string (s.extract i (i + k))], .int .i64 k, .int .i64 0])) (by simp [results, Tryz.results34, go_sem]) rfl ⟨by rw [HQ'.out], (Below.refl _ _).alloc (Nat.le_refl _) _⟩


set_option maxRecDepth 100000 in
set_option maxHeartbeats 1600000 in
theorem rone_sign (s : ByteArray) (hs : s.size ≤ 4000) (i : Nat) (hi : i < s.size) (hl : isLet s[i] = false) (hd : isDig s[i] = false) (w : World) :
    Calls Tryz.prog 34 #[.string s, .int .i64 (i : Int)] w fun e w' => OneQ s i e ∧ Below w.heap.size w w' := by
  obtain ⟨N, hN⟩ : ∃ N, N = signN (s.data.toList.drop i) := ⟨_, rfl⟩
  have hle : i + N ≤ s.size := by
    have h1 := signN_le (s.data.toList.drop i)
    have h2 : s.data.toList.length = s.size := by simp
    rw [← hN, List.length_drop] at h1
    omega
  have hle' : (i : Int) + (N : Int) ≤ (s.size : Int) := by omega
  have HN : Hid (N = signN (s.data.toList.drop i)) := hN
  clear hN
  by_cases h0 : N = 0
  · have HQ' : Hid (∀ e, OneQ s i e = (e = .returned (.tuple #[.agg #[.int .i64 0, .int .i64 0, .int .i64 0, .string ⟨#[]⟩], .int .i64 0, .int .i64 5]))) := fun e => by
      unfold OneQ; rw [oneL_sign hi hl hd, if_pos (by rw [← HN.out]; exact h0)]
    subst h0
    go_enter Tryz.func34, Tryz.ntmps34
    go_wp2_with (first | (go_at_call 62; refine (rlet_any s[i] _).mono ?_; rintro e w' ⟨rfl, rfl⟩; rw [hl]) | (go_at_call 63; refine (rdig_any s[i] _).mono ?_; rintro e w' ⟨rfl, rfl⟩; rw [hd]) | (go_at_call 65; refine (rsign_any s hs i hi _).mono ?_; rintro e w' ⟨rfl, rfl⟩; rw [← HN.out]))
    exact bodyPost_ret (v := (.tuple #[.agg #[.int .i64 0, .int .i64 0, .int .i64 0, .string ⟨#[]⟩], .int .i64 0, .int .i64 5])) (by simp [results, Tryz.results34, go_sem]) rfl ⟨by rw [HQ'.out], (Below.refl _ _).alloc (Nat.le_refl _) _⟩
  · have HQ' : Hid (∀ e, OneQ s i e = (e = .returned (.tuple #[.agg #[.int .i64 4, .int .i64 0, .int .i64 i, .string (s.extract i (i + N))], .int .i64 N, .int .i64 0]))) := fun e => by
      unfold OneQ; rw [oneL_sign hi hl hd, if_neg (by rw [← HN.out]; exact h0), ← HN.out]
    have e0 : ((N : Int) == 0) = false := by rw [beq_eq_false_iff_ne]; omega
    clear h0
    go_enter Tryz.func34, Tryz.ntmps34
    go_wp2_with (first | (go_at_call 62; refine (rlet_any s[i] _).mono ?_; rintro e w' ⟨rfl, rfl⟩; rw [hl]) | (go_at_call 63; refine (rdig_any s[i] _).mono ?_; rintro e w' ⟨rfl, rfl⟩; rw [hd]) | (go_at_call 65; refine (rsign_any s hs i hi _).mono ?_; rintro e w' ⟨rfl, rfl⟩; rw [← HN.out]))
    exact bodyPost_ret (v := (.tuple #[.agg #[.int .i64 4, .int .i64 0, .int .i64 i, .string (s.extract i (i + N))], .int .i64 N, .int .i64 0])) (by simp [results, Tryz.results34, go_sem]) rfl ⟨by rw [HQ'.out], (Below.refl _ _).alloc (Nat.le_refl _) _⟩

/-- The document's one token, of every byte. -/
theorem rone_any (s : ByteArray) (hs : s.size ≤ 4000) (i : Nat) (hi : i < s.size) (w : World) :
    Calls Tryz.prog 34 #[.string s, .int .i64 (i : Int)] w fun e w' => OneQ s i e ∧ Below w.heap.size w w' := by
  cases hl : isLet s[i] with
  | true => exact rone_name s hs i hi hl _ (rfl : _ = _) w
  | false =>
    cases hd : isDig s[i] with
    | true => exact rone_num s hs i hi hl hd _ (rfl : _ = _) w
    | false => exact rone_sign s hs i hi hl hd w

end Go.Proofs.YtclnjhffcfkihaeGreatDoor
