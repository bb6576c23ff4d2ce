/-
  The document's one token.
  The document's one token: numbers.
  The program's take: over all bytes that go on.
-/
import Derived.Test.YtclnjhffcfkihaeGreatDoorSynF6
import Derived.Test.YtclnjhffcfkihaeGreatDoorBase
namespace Go.Proofs.YtclnjhffcfkihaeGreatDoor
section
open Go.RowKit

/-- How many bytes from k on are such. -/
def twAt (p : UInt8 → Bool) (s : ByteArray) (k : Nat) : Nat := ((s.data.toList.drop k).takeWhile p).length
section
variable {p : UInt8 → Bool} {s : ByteArray} {k : Nat}
theorem twAt_end (h : s.size ≤ k) : twAt p s k = 0 := by rw [twAt, drop_over s k h]; rfl
theorem twAt_stop (h : k < s.size) (hp : p s[k] = false) : twAt p s k = 0 := by
  rw [twAt, drop_at s k h, List.takeWhile_cons_of_neg (by simp [hp])]; rfl
theorem twAt_more (h : k < s.size) (hp : p s[k] = true) : twAt p s k = twAt p s (k + 1) + 1 := by
  rw [twAt, drop_at s k h, List.takeWhile_cons_of_pos hp]; rfl
theorem twAt_le (h : k ≤ s.size) : k + twAt p s k ≤ s.size := by
  have h1 := takeWhile_le p (s.data.toList.drop k)
  have hl : s.data.toList.length = s.size := by simp
  rw [List.length_drop, hl] at h1
  unfold twAt
  omega
theorem twAt_text (h : k < s.size) : (s.extract k (k + (1 + twAt p s (k + 1)))).data.toList = s[k] :: (s.data.toList.drop (k + 1)).takeWhile p := by
  rw [ext_list, Nat.add_sub_cancel_left, drop_at s k h, Nat.add_comm 1, List.take_succ_cons, twAt, takeWhile_take]
end

/-- A token that is told, and none. -/
def OneQ (s : ByteArray) (i : Nat) (e : Ending) : Prop :=
  match oneL (s.data.toList.drop i) with
  | none => e = .returned (.tuple #[.agg #[.int .i64 0, .int .i64 0, .int .i64 0, .string ⟨#[]⟩], .int .i64 0, .int .i64 5])
  | some (k, v, m) => e = .returned (.tuple #[.agg #[.int .i64 k, .int .i64 v, .int .i64 i, .string (s.extract i (i + m))], .int .i64 m, .int .i64 0])

theorem oneL_name {s : ByteArray} {i N : Nat} (hi : i < s.size) (hl : isLet s[i] = true) (hN : 1 + twAt isNam s (i + 1) = N) :
    oneL (s.data.toList.drop i) = if 12 < N then none else some (kindW (s.extract i (i + N)).data.toList, 0, N) := by
  subst hN
  rw [twAt_text hi, drop_at s i hi, oneL, if_pos hl]
  rfl
theorem oneL_num {s : ByteArray} {i N : Nat} (hi : i < s.size) (hl : isLet s[i] = false) (hd : isDig s[i] = true) (hN : 1 + twAt isDig s (i + 1) = N) :
    oneL (s.data.toList.drop i) = if 9 < N ∨ (1 < N ∧ s[i].toNat = 48) then none else some (3, (mag (s.extract i (i + N)).data.toList : Int), N) := by
  subst hN
  rw [twAt_text hi, drop_at s i hi, oneL, if_neg (by simp [hl]), if_pos hd]
  rfl
theorem oneL_sign {s : ByteArray} {i : Nat} (hi : i < s.size) (hl : isLet s[i] = false) (hd : isDig s[i] = false) :
    oneL (s.data.toList.drop i) = if signN (s.data.toList.drop i) = 0 then none else some (4, 0, signN (s.data.toList.drop i)) := by
  rw [drop_at s i hi, oneL, if_neg (by simp [hl]), if_neg (by simp [hd])]

set_option maxRecDepth 100000 in
set_option maxHeartbeats 1600000 in
theorem rone_name (s : ByteArray) (hs : s.size ≤ 4000) (i : Nat) (hi : i < s.size) (hl : isLet s[i] = true) (N : Nat) (HN : Hid (1 + twAt isNam s (i + 1) = N)) (w : World) :
    Calls Tryz.prog 34 #[.string s, .int .i64 (i : Int)] w fun e w' => OneQ s i e ∧ Below w.heap.size w w' := by
  have hq : ∀ e, OneQ s i e = (match (if 12 < N then none else some (kindW (s.extract i (i + N)).data.toList, (0 : Int), N)) with
      | none => e = .returned (.tuple #[.agg #[.int .i64 0, .int .i64 0, .int .i64 0, .string ⟨#[]⟩], .int .i64 0, .int .i64 5])
      | some (k, v, m) => e = .returned (.tuple #[.agg #[.int .i64 k, .int .i64 v, .int .i64 i, .string (s.extract i (i + m))], .int .i64 m, .int .i64 0])) := fun e => by
    unfold OneQ; rw [oneL_name hi hl HN.out]
  have HQ := Hid.out (p := Hid _) hq
  clear hq
  go_enter Tryz.func34, Tryz.ntmps34
  go_wp2_with (first | (go_at_call 62; refine (rlet_any s[i] _).mono ?_; rintro e w' ⟨rfl, rfl⟩; rw [hl]))
  go_loop [7] (fun n => ∃ k : Nat, 1 ≤ k ∧ i + k ≤ s.size ∧ n = .int .i64 k ∧ Hid (k + twAt isNam s (i + k) = N)) (fun n => s.size - (intOf n).toNat)
  case atStart => exact ⟨1, Nat.le_refl _, hi, rfl, HN⟩
  case round =>
    obtain ⟨k, hk1, hk, rfl, HK⟩ := hrel
    by_cases hlt : i + k < s.size
    · have hlt' : (i : Int) + (k : Int) < (s.size : Int) := by omega
      cases ha : isLet s[i + k] with
      | true =>
        have HN' : Hid (k + 1 + twAt isNam s (i + (k + 1)) = N) := by
          have := HK.out
          rw [twAt_more hlt (by simp [isNam, ha])] at this
          show _ = _
          rw [← this, ← Nat.add_assoc]; omega
        cases hb : isDig s[i + k]
        all_goals
          go_wp2_with (first | (go_at_call 62; refine (rlet_any s[i + k] _).mono ?_; rintro e w' ⟨rfl, rfl⟩; rw [ha]) | (go_at_call 63; refine (rdig_any s[i + k] _).mono ?_; rintro e w' ⟨rfl, rfl⟩; rw [hb]))
          go_round
          case rel => exact ⟨k + 1, by omega, by omega, by go_num, HN'⟩
          case measure => simp [intOf]; omega
      | false =>
        cases hb : isDig s[i + k] with
        | true =>
          have HN' : Hid (k + 1 + twAt isNam s (i + (k + 1)) = N) := by
            have := HK.out
            rw [twAt_more hlt (by simp [isNam, hb])] at this
            show _ = _
            rw [← this, ← Nat.add_assoc]; omega
          go_wp2_with (first | (go_at_call 62; refine (rlet_any s[i + k] _).mono ?_; rintro e w' ⟨rfl, rfl⟩; rw [ha]) | (go_at_call 63; refine (rdig_any s[i + k] _).mono ?_; rintro e w' ⟨rfl, rfl⟩; rw [hb]))
          go_round
          case rel => exact ⟨k + 1, by omega, by omega, by go_num, HN'⟩
          case measure => simp [intOf]; omega
        | false =>
          have hkN : k = N := by
            have := HK.out
            rw [twAt_stop hlt (by simp [isNam, ha, hb])] at this
            omega
          subst hkN
          have hle : (i : Int) + (k : Int) ≤ (s.size : Int) := by omega
          clear HK HN
          cases hw : isWord (s.extract i (i + k)).data.toList with
          | true =>
            have h12 : ¬ 12 < k := by
              have := word_len hw
              rw [ext_list, Nat.add_sub_cancel_left, List.length_take, List.length_drop] at this
              have hl : s.data.toList.length = s.size := by simp
              omega
            have HQ' : Hid (∀ e, OneQ s i e = (e = .returned (.tuple #[.agg #[.int .i64 2, .int .i64 0, .int .i64 i, .string (s.extract i (i + k))], .int .i64 k, .int .i64 0]))) := fun e => by rw [HQ.out e, if_neg h12, kindW, hw]; rfl
            clear HQ
            go_wp2_with (first | (go_at_call 62; refine (rlet_any s[i + k] _).mono ?_; rintro e w' ⟨rfl, rfl⟩; rw [ha]) | (go_at_call 63; refine (rdig_any s[i + k] _).mono ?_; rintro e w' ⟨rfl, rfl⟩; rw [hb]) | (go_at_call 64; refine (rword_any _ _).mono ?_; rintro e w' ⟨rfl, rfl⟩; rw [hw]))
            exact bodyPost_ret (v := (.tuple #[.agg #[.int .i64 2, .int .i64 0, .int .i64 i, .string (s.extract i (i + k))], .int .i64 k, .int .i64 0])) (by simp [results, Tryz.results34, go_sem]) rfl ⟨by rw [HQ'.out], (Below.refl _ _).alloc (Nat.le_refl _) _⟩
          | false =>
            by_cases h12 : 12 < k
            · have HQ' : Hid (∀ e, OneQ s i e = (e = .returned (.tuple #[.agg #[.int .i64 0, .int .i64 0, .int .i64 0, .string ⟨#[]⟩], .int .i64 0, .int .i64 5]))) := fun e => by rw [HQ.out e, if_pos h12]
              have h12' : 12 < (k : Int) := by omega
              clear HQ
              go_wp2_with (first | (go_at_call 62; refine (rlet_any s[i + k] _).mono ?_; rintro e w' ⟨rfl, rfl⟩; rw [ha]) | (go_at_call 63; refine (rdig_any s[i + k] _).mono ?_; rintro e w' ⟨rfl, rfl⟩; rw [hb]) | (go_at_call 64; refine (rword_any _ _).mono ?_; rintro e w' ⟨rfl, rfl⟩; rw [hw]))
              exact bodyPost_ret (v := (.tuple #[.agg #[.int .i64 0, .int .i64 0, .int .i64 0, .string ⟨#[]⟩], .int .i64 0, .int .i64 5])) (by simp [results, Tryz.results34, go_sem]) rfl ⟨by rw [HQ'.out], (Below.refl _ _).alloc (Nat.le_refl _) _⟩
            · have HQ' : Hid (∀ e, OneQ s i e = (e = .returned (.tuple #[.agg #[.int .i64 1, .int .i64 0, .int .i64 i, .string (s.extract i (i + k))], .int .i64 k, .int .i64 0]))) := fun e => by rw [HQ.out e, if_neg h12, kindW, hw]; rfl
              have h12' : ¬ 12 < (k : Int) := by omega
              clear HQ
              go_wp2_with (first | (go_at_call 62; refine (rlet_any s[i + k] _).mono ?_; rintro e w' ⟨rfl, rfl⟩; rw [ha]) | (go_at_call 63; refine (rdig_any s[i + k] _).mono ?_; rintro e w' ⟨rfl, rfl⟩; rw [hb]) | (go_at_call 64; refine (rword_any _ _).mono ?_; rintro e w' ⟨rfl, rfl⟩; rw [hw]))
              exact bodyPost_ret (v := (.tuple #[.agg #[.int .i64 1, .int .i64 0, .int .i64 i, .string (s.extract i (i + k))], .int .i64 k, .int .i64 0])) (by simp [results, Tryz.results34, go_sem]) rfl ⟨by rw [HQ'.out], (Below.refl _ _).alloc (Nat.le_refl _) _⟩
    · have hlt' : ¬ (i : Int) + (k : Int) < (s.size : Int) := by omega
      have hkN : k = N := by
        have := HK.out
        rw [twAt_end (by omega)] at this
        omega
      subst hkN
      have hle : (i : Int) + (k : Int) ≤ (s.size : Int) := by omega
      clear HK HN
      cases hw : isWord (s.extract i (i + k)).data.toList with
      | true =>
        have h12 : ¬ 12 < k := by
          have := word_len hw
          rw [ext_list, Nat.add_sub_cancel_left, List.length_take, List.length_drop] at this
          have hl : s.data.toList.length = s.size := by simp
          omega
        have HQ' : Hid (∀ e, OneQ s i e = (e = .returned (.tuple #[.agg #[.int .i64 2, .int .i64 0, .int .i64 i, .string (s.extract i (i + k))], .int .i64 k, .int .i64 0]))) := fun e => by rw [HQ.out e, if_neg h12, kindW, hw]; rfl
        clear HQ
        go_wp2_with (first | (go_at_call 64; refine (rword_any _ _).mono ?_; rintro e w' ⟨rfl, rfl⟩; rw [hw]))
        exact bodyPost_ret (v := (.tuple #[.agg #[.int .i64 2, .int .i64 0, .int .i64 i, .string (s.extract i (i + k))], .int .i64 k, .int .i64 0])) (by simp [results, Tryz.results34, go_sem]) rfl ⟨by rw [HQ'.out], (Below.refl _ _).alloc (Nat.le_refl _) _⟩
      | false =>
        by_cases h12 : 12 < k
        · have HQ' : Hid (∀ e, OneQ s i e = (e = .returned (.tuple #[.agg #[.int .i64 0, .int .i64 0, .int .i64 0, .string ⟨#[]⟩], .int .i64 0, .int .i64 5]))) := fun e => by rw [HQ.out e, if_pos h12]
          have h12' : 12 < (k : Int) := by omega
          clear HQ
          go_wp2_with (first | (go_at_call 64; refine (rword_any _ _).mono ?_; rintro e w' ⟨rfl, rfl⟩; rw [hw]))
          exact bodyPost_ret (v := (.tuple #[.agg #[.int .i64 0, .int .i64 0, .int .i64 0, .string ⟨#[]⟩], .int .i64 0, .int .i64 5])) (by simp [results, Tryz.results34, go_sem]) rfl ⟨by rw [HQ'.out], (Below.refl _ _).alloc (Nat.le_refl _) _⟩
        · have HQ' : Hid (∀ e, OneQ s i e = (e = .returned (.tuple #[.agg #[.int .i64 1, .int .i64 0, .int .i64 i, .string (s.extract i (i + k))], .int .i64 k, .int .i64 0]))) := fun e => by rw [HQ.out e, if_neg h12, kindW, hw]; rfl
          have h12' : ¬ 12 < (k : Int) := by omega
          clear HQ
          go_wp2_with (first | (go_at_call 64; refine (rword_any _ _).mono ?_; rintro e w' ⟨rfl, rfl⟩; rw [hw]))
          exact bodyPost_ret (v := (.tuple #[.agg #[.int .i64 1, .int .i64 0, .int .i64 i, .string (s.extract i (i + k))], .int .i64 k, .int .i64 0])) (by simp [results, Tryz.results34, go_sem]) rfl ⟨by rw [HQ'.out], (Below.refl _ _).alloc (Nat.le_refl _) _⟩
end

section
open Go.RowKit

theorem wrap64_is {n : Int} (h : -9223372036854775808 ≤ n ∧ n ≤ 9223372036854775807) : wrap64 n = n := by unfold wrap64; omega
theorem take_more (s : ByteArray) (i k : Nat) (h : i + k < s.size) : (s.data.toList.drop i).take (k + 1) = (s.data.toList.drop i).take k ++ [s[i + k]] := by
  have hl : s.data.toList.length = s.size := by simp
  rw [List.take_succ_eq_append_getElem (by rw [List.length_drop, hl]; omega)]
  simp only [List.getElem_drop]
  rfl
theorem mag_nine (l : List UInt8) (h : l.all isDig = true) (k : Nat) : mag (l.take (min k 9)) < 1000000000 := by
  have h1 := magFrom_lt (l.take (min k 9)) 0 (by rw [List.all_eq_true] at h ⊢; exact fun x hx => h x (List.mem_of_mem_take hx))
  have h2 : 10 ^ (l.take (min k 9)).length ≤ 10 ^ 9 := Nat.pow_le_pow_right (by omega) (by rw [List.length_take]; omega)
  have h3 : magFrom 0 (l.take (min k 9)) = mag (l.take (min k 9)) := rfl
  omega

theorem nine_of {l : List UInt8} {k m : Nat} (hm : m = mag (l.take (min k 9))) (ha : (l.take k).all isDig = true) : m < 1000000000 := by
  have := mag_nine _ ha k
  rw [List.take_take, Nat.min_eq_left (by omega), ← hm] at this
  exact this

set_option maxRecDepth 100000 in
set_option maxHeartbeats 3200000 in
theorem rone_num (s : ByteArray) (hs : s.size ≤ 4000) (i : Nat) (hi : i < s.size) (hl : isLet s[i] = false) (hd : isDig s[i] = true) (N : Nat) (HN : Hid (1 + twAt isDig s (i + 1) = N)) (w : World) :
    Calls Tryz.prog 34 #[.string s, .int .i64 (i : Int)] w fun e w' => OneQ s i e ∧ Below w.heap.size w w' := by
  have hq : ∀ e, OneQ s i e = (match (if 9 < N ∨ (1 < N ∧ s[i].toNat = 48) then none else some ((3 : Int), (mag (s.extract i (i + N)).data.toList : Int), N)) with
      | none => e = .returned (.tuple #[.agg #[.int .i64 0, .int .i64 0, .int .i64 0, .string ⟨#[]⟩], .int .i64 0, .int .i64 5])
      | some (k, v, m) => e = .returned (.tuple #[.agg #[.int .i64 k, .int .i64 v, .int .i64 i, .string (s.extract i (i + m))], .int .i64 m, .int .i64 0])) := fun e => by
    unfold OneQ; rw [oneL_num hi hl hd HN.out]; first | done | rfl
  have HQ := Hid.out (p := Hid _) hq
  clear hq
  have hd1 : 48 ≤ (s[i].toNat : Int) := by simp [isDig] at hd; omega
  have hd2 : (s[i].toNat : Int) ≤ 57 := by simp [isDig] at hd; omega
  have HA0 : Hid (((s.data.toList.drop i).take 1).all isDig = true) := by
    show _ = _
    rw [drop_at s i hi]; simp [hd]
  have HM0 : Hid (s[i].toNat - 48 = mag ((s.data.toList.drop i).take (min 1 9))) := by
    show _ = _
    rw [drop_at s i hi]; simp [mag]
  go_enter Tryz.func34, Tryz.ntmps34
  go_wp2_with (first | (go_at_call 62; refine (rlet_any s[i] _).mono ?_; rintro e w' ⟨rfl, rfl⟩; rw [hl]) | (go_at_call 63; refine (rdig_any s[i] _).mono ?_; rintro e w' ⟨rfl, rfl⟩; rw [hd]))
  go_loop [7, 12] (fun n v => ∃ k m : Nat, 1 ≤ k ∧ i + k ≤ s.size ∧ n = .int .i64 k ∧ v = .int .i64 (m : Int) ∧ Hid (k + twAt isDig s (i + k) = N) ∧ Hid (m = mag ((s.data.toList.drop i).take (min k 9))) ∧ Hid (((s.data.toList.drop i).take k).all isDig = true)) (fun n _ => s.size - (intOf n).toNat)
  case atStart => exact ⟨1, s[i].toNat - 48, Nat.le_refl _, hi, rfl, by go_num, HN, HM0, HA0⟩
  case round =>
    obtain ⟨k, m, hk1, hk, rfl, rfl, HK, HM, HA⟩ := hrel
    by_cases hlt : i + k < s.size
    · have hlt' : (i : Int) + (k : Int) < (s.size : Int) := by omega
      cases hb : isDig s[i + k] with
      | true =>
        have hb1 : 48 ≤ (s[i + k].toNat : Int) := by simp [isDig] at hb; omega
        have hb2 : (s[i + k].toNat : Int) ≤ 57 := by simp [isDig] at hb; omega
        have HN' : Hid (k + 1 + twAt isDig s (i + (k + 1)) = N) := by
          have := HK.out
          rw [twAt_more hlt hb] at this
          show _ = _
          rw [← this, ← Nat.add_assoc]; omega
        have HA' : Hid (((s.data.toList.drop i).take (k + 1)).all isDig = true) := by
          show _ = _
          rw [take_more s i k hlt, List.all_append, HA.out]; simp [hb]
        by_cases h9 : (k : Int) < 9
        · have HM' : Hid (m * 10 + (s[i + k].toNat - 48) = mag ((s.data.toList.drop i).take (min (k + 1) 9))) := by
            have := HM.out
            show _ = _
            rw [Nat.min_eq_left (by omega)] at this ⊢
            rw [take_more s i k hlt, mag_snoc, this]
          clear HK
          go_wp2_with (first | (go_at_call 63; refine (rdig_any s[i + k] _).mono ?_; rintro e w' ⟨rfl, rfl⟩; rw [hb]))
          have hm9 := nine_of HM.out HA.out
          go_round
          case rel => exact ⟨k + 1, m * 10 + (s[i + k].toNat - 48), by omega, by omega, by go_num, by rw [wrap64_is (n := 10 * (m : Int)) (by omega), wrap64_is (by omega)]; congr 1; omega, HN', HM', HA'⟩
          case measure => simp [intOf]; omega
        · have HM' : Hid (m = mag ((s.data.toList.drop i).take (min (k + 1) 9))) := by
            have := HM.out
            show _ = _
            rw [Nat.min_eq_right (by omega)] at this ⊢
            exact this
          clear HK
          go_wp2_with (first | (go_at_call 63; refine (rdig_any s[i + k] _).mono ?_; rintro e w' ⟨rfl, rfl⟩; rw [hb]))
          go_round
          case rel => exact ⟨k + 1, m, by omega, by omega, by go_num, rfl, HN', HM', HA'⟩
          case measure => simp [intOf]; omega
      | false =>
        have hkN : k = N := by
          have := HK.out
          rw [twAt_stop hlt hb] at this
          omega
        subst hkN
        have hle : (i : Int) + (k : Int) ≤ (s.size : Int) := by omega
        clear HK HN
        by_cases h9 : 9 < k
        · have HQ' : Hid (∀ e, OneQ s i e = (e = .returned (.tuple #[.agg #[.int .i64 0, .int .i64 0, .int .i64 0, .string ⟨#[]⟩], .int .i64 0, .int .i64 5]))) := fun e => by rw [HQ.out e, if_pos (Or.inl h9)]
          have h9' : 9 < (k : Int) := by omega
          clear HQ HM HA
          go_wp2_with (first | (go_at_call 63; refine (rdig_any s[i + k] _).mono ?_; rintro e w' ⟨rfl, rfl⟩; rw [hb]))
          exact bodyPost_ret (v := (.tuple #[.agg #[.int .i64 0, .int .i64 0, .int .i64 0, .string ⟨#[]⟩], .int .i64 0, .int .i64 5])) (by simp [results, Tryz.results34, go_sem]) rfl ⟨by rw [HQ'.out], (Below.refl _ _).alloc (Nat.le_refl _) _⟩
        · have h9' : ¬ 9 < (k : Int) := by omega
          have hm : m = mag (s.extract i (i + k)).data.toList := by
            rw [HM.out, ext_list, Nat.add_sub_cancel_left, Nat.min_eq_left (by omega)]
          by_cases h1 : 1 < k
          · have h1' : 1 < (k : Int) := by omega
            by_cases h48 : s[i].toNat = 48
            · have HQ' : Hid (∀ e, OneQ s i e = (e = .returned (.tuple #[.agg #[.int .i64 0, .int .i64 0, .int .i64 0, .string ⟨#[]⟩], .int .i64 0, .int .i64 5]))) := fun e => by rw [HQ.out e, if_pos (Or.inr ⟨h1, h48⟩)]
              have e48 : ((s[i].toNat : Int) == 48) = true := by simp; omega
              clear HQ HM HA h48 hm
              go_wp2_with (first | (go_at_call 63; refine (rdig_any s[i + k] _).mono ?_; rintro e w' ⟨rfl, rfl⟩; rw [hb]))
              exact bodyPost_ret (v := (.tuple #[.agg #[.int .i64 0, .int .i64 0, .int .i64 0, .string ⟨#[]⟩], .int .i64 0, .int .i64 5])) (by simp [results, Tryz.results34, go_sem]) rfl ⟨by rw [HQ'.out], (Below.refl _ _).alloc (Nat.le_refl _) _⟩
            · have HQ' : Hid (∀ e, OneQ s i e = (e = .returned (.tuple #[.agg #[.int .i64 3, .int .i64 (m : Int), .int .i64 i, .string (s.extract i (i + k))], .int .i64 k, .int .i64 0]))) := fun e => by rw [HQ.out e, if_neg (by omega), hm]
              have e48 : ((s[i].toNat : Int) == 48) = false := by rw [beq_eq_false_iff_ne]; omega
              clear HQ HM HA h48 hm
              go_wp2_with (first | (go_at_call 63; refine (rdig_any s[i + k] _).mono ?_; rintro e w' ⟨rfl, rfl⟩; rw [hb]))
              exact bodyPost_ret (v := (.tuple #[.agg #[.int .i64 3, .int .i64 (m : Int), .int .i64 i, .string (s.extract i (i + k))], .int .i64 k, .int .i64 0])) (by simp [results, Tryz.results34, go_sem]) rfl ⟨by rw [HQ'.out], (Below.refl _ _).alloc (Nat.le_refl _) _⟩
          · have h1' : ¬ 1 < (k : Int) := by omega
            have HQ' : Hid (∀ e, OneQ s i e = (e = .returned (.tuple #[.agg #[.int .i64 3, .int .i64 (m : Int), .int .i64 i, .string (s.extract i (i + k))], .int .i64 k, .int .i64 0]))) := fun e => by rw [HQ.out e, if_neg (by omega), hm]
            clear HQ HM HA hm
            go_wp2_with (first | (go_at_call 63; refine (rdig_any s[i + k] _).mono ?_; rintro e w' ⟨rfl, rfl⟩; rw [hb]))
            exact bodyPost_ret (v := (.tuple #[.agg #[.int .i64 3, .int .i64 (m : Int), .int .i64 i, .string (s.extract i (i + k))], .int .i64 k, .int .i64 0])) (by simp [results, Tryz.results34, go_sem]) rfl ⟨by rw [HQ'.out], (Below.refl _ _).alloc (Nat.le_refl _) _⟩
    · have hlt' : ¬ (i : Int) + (k : Int) < (s.size : Int) := by omega
      have hkN : k = N := by
        have := HK.out
        rw [twAt_end (by omega)] at this
        omega
      subst hkN
      have hle : (i : Int) + (k : Int) ≤ (s.size : Int) := by omega
      clear HK HN
      by_cases h9 : 9 < k
      · have HQ' : Hid (∀ e, OneQ s i e = (e = .returned (.tuple #[.agg #[.int .i64 0, .int .i64 0, .int .i64 0, .string ⟨#[]⟩], .int .i64 0, .int .i64 5]))) := fun e => by rw [HQ.out e, if_pos (Or.inl h9)]
        have h9' : 9 < (k : Int) := by omega
        clear HQ HM HA
        go_wp2_with (first | fail)
        exact bodyPost_ret (v := (.tuple #[.agg #[.int .i64 0, .int .i64 0, .int .i64 0, .string ⟨#[]⟩], .int .i64 0, .int .i64 5])) (by simp [results, Tryz.results34, go_sem]) rfl ⟨by rw [HQ'.out], (Below.refl _ _).alloc (Nat.le_refl _) _⟩
      · have h9' : ¬ 9 < (k : Int) := by omega
        have hm : m = mag (s.extract i (i + k)).data.toList := by
          rw [HM.out, ext_list, Nat.add_sub_cancel_left, Nat.min_eq_left (by omega)]
        by_cases h1 : 1 < k
        · have h1' : 1 < (k : Int) := by omega
          by_cases h48 : s[i].toNat = 48
          · have HQ' : Hid (∀ e, OneQ s i e = (e = .returned (.tuple #[.agg #[.int .i64 0, .int .i64 0, .int .i64 0, .string ⟨#[]⟩], .int .i64 0, .int .i64 5]))) := fun e => by rw [HQ.out e, if_pos (Or.inr ⟨h1, h48⟩)]
            have e48 : ((s[i].toNat : Int) == 48) = true := by simp; omega
            clear HQ HM HA h48 hm
            go_wp2_with (first | fail)
            exact bodyPost_ret (v := (.tuple #[.agg #[.int .i64 0, .int .i64 0, .int .i64 0, .string ⟨#[]⟩], .int .i64 0, .int .i64 5])) (by simp [results, Tryz.results34, go_sem]) rfl ⟨by rw [HQ'.out], (Below.refl _ _).alloc (Nat.le_refl _) _⟩
          · have HQ' : Hid (∀ e, OneQ s i e = (e = .returned (.tuple #[.agg #[.int .i64 3, .int .i64 (m : Int), .int .i64 i, .string (s.extract i (i + k))], .int .i64 k, .int .i64 0]))) := fun e => by rw [HQ.out e, if_neg (by omega), hm]
            have e48 : ((s[i].toNat : Int) == 48) = false := by rw [beq_eq_false_iff_ne]; omega
            clear HQ HM HA h48 hm
            go_wp2_with (first | fail)
            exact bodyPost_ret (v := (.tuple #[.agg #[.int .i64 3, .int .i64 (m : Int), .int .i64 i, .string (s.extract i (i + k))], .int .i64 k, .int .i64 0])) (by simp [results, Tryz.results34, go_sem]) rfl ⟨by rw [HQ'.out], (Below.refl _ _).alloc (Nat.le_refl _) _⟩
        · have h1' : ¬ 1 < (k : Int) := by omega
          have HQ' : Hid (∀ e, OneQ s i e = (e = .returned (.tuple #[.agg #[.int .i64 3, .int .i64 (m : Int), .int .i64 i, .string (s.extract i (i + k))], .int .i64 k, .int .i64 0]))) := fun e => by rw [HQ.out e, if_neg (by omega), hm]
          clear HQ HM HA hm
          go_wp2_with (first | fail)
          exact bodyPost_ret (v := (.tuple #[.agg #[.int .i64 3, .int .i64 (m : Int), .int .i64 i, .string (s.extract i (i + k))], .int .i64 k, .int .i64 0])) (by simp [results, Tryz.results34, go_sem]) rfl ⟨by rw [HQ'.out], (Below.refl _ _).alloc (Nat.le_refl _) _⟩


set_option maxRecDepth 100000 in
set_option maxHeartbeats 1600000 in
theorem rone_sign (s : ByteArray) (hs : s.size ≤ 4000) (i : Nat) (hi : i < s.size) (hl : isLet s[i] = false) (hd : isDig s[i] = false) (w : World) :
    Calls Tryz.prog 34 #[.string s, .int .i64 (i : Int)] w fun e w' => OneQ s i e ∧ Below w.heap.size w w' := by
  obtain ⟨N, hN⟩ : ∃ N, N = signN (s.data.toList.drop i) := ⟨_, rfl⟩
  have hle : i + N ≤ s.size := by
    have h1 := signN_le (s.data.toList.drop i)
    have h2 : s.data.toList.length = s.size := by simp
    rw [← hN, List.length_drop] at h1
    omega
  have hle' : (i : Int) + (N : Int) ≤ (s.size : Int) := by omega
  have HN : Hid (N = signN (s.data.toList.drop i)) := hN
  clear hN
  by_cases h0 : N = 0
  · have HQ' : Hid (∀ e, OneQ s i e = (e = .returned (.tuple #[.agg #[.int .i64 0, .int .i64 0, .int .i64 0, .string ⟨#[]⟩], .int .i64 0, .int .i64 5]))) := fun e => by
      unfold OneQ; rw [oneL_sign hi hl hd, if_pos (by rw [← HN.out]; exact h0)]
    subst h0
    go_enter Tryz.func34, Tryz.ntmps34
    go_wp2_with (first | (go_at_call 62; refine (rlet_any s[i] _).mono ?_; rintro e w' ⟨rfl, rfl⟩; rw [hl]) | (go_at_call 63; refine (rdig_any s[i] _).mono ?_; rintro e w' ⟨rfl, rfl⟩; rw [hd]) | (go_at_call 65; refine (rsign_any s hs i hi _).mono ?_; rintro e w' ⟨rfl, rfl⟩; rw [← HN.out]))
    exact bodyPost_ret (v := (.tuple #[.agg #[.int .i64 0, .int .i64 0, .int .i64 0, .string ⟨#[]⟩], .int .i64 0, .int .i64 5])) (by simp [results, Tryz.results34, go_sem]) rfl ⟨by rw [HQ'.out], (Below.refl _ _).alloc (Nat.le_refl _) _⟩
  · have HQ' : Hid (∀ e, OneQ s i e = (e = .returned (.tuple #[.agg #[.int .i64 4, .int .i64 0, .int .i64 i, .string (s.extract i (i + N))], .int .i64 N, .int .i64 0]))) := fun e => by
      unfold OneQ; rw [oneL_sign hi hl hd, if_neg (by rw [← HN.out]; exact h0), ← HN.out]
    have e0 : ((N : Int) == 0) = false := by rw [beq_eq_false_iff_ne]; omega
    clear h0
    go_enter Tryz.func34, Tryz.ntmps34
    go_wp2_with (first | (go_at_call 62; refine (rlet_any s[i] _).mono ?_; rintro e w' ⟨rfl, rfl⟩; rw [hl]) | (go_at_call 63; refine (rdig_any s[i] _).mono ?_; rintro e w' ⟨rfl, rfl⟩; rw [hd]) | (go_at_call 65; refine (rsign_any s hs i hi _).mono ?_; rintro e w' ⟨rfl, rfl⟩; rw [← HN.out]))
    exact bodyPost_ret (v := (.tuple #[.agg #[.int .i64 4, .int .i64 0, .int .i64 i, .string (s.extract i (i + N))], .int .i64 N, .int .i64 0])) (by simp [results, Tryz.results34, go_sem]) rfl ⟨by rw [HQ'.out], (Below.refl _ _).alloc (Nat.le_refl _) _⟩

/-- The document's one token, of every byte. -/
theorem rone_any (s : ByteArray) (hs : s.size ≤ 4000) (i : Nat) (hi : i < s.size) (w : World) :
    Calls Tryz.prog 34 #[.string s, .int .i64 (i : Int)] w fun e w' => OneQ s i e ∧ Below w.heap.size w w' := by
  cases hl : isLet s[i] with
  | true => exact rone_name s hs i hi hl _ (rfl : _ = _) w
  | false =>
    cases hd : isDig s[i] with
    | true => exact rone_num s hs i hi hl hd _ (rfl : _ = _) w
    | false => exact rone_sign s hs i hi hl hd w
end

section
open Go.RowKit

def atOf (w : World) (sb : Nat) : Nat := match w.cell? ⟨sb, 1, none⟩ with
  | some (.int _ i) => i.toNat
  | _ => 0
theorem Sc.at {w : World} {sb : Nat} {s : ByteArray} {k : Nat} (h : Sc w sb s k) : atOf w sb = k := by
  unfold atOf; rw [h.c1]; simp

set_option maxRecDepth 100000 in
set_option maxHeartbeats 1600000 in
theorem take_dig (sb : Nat) (s : ByteArray) (hs : s.size ≤ 4000) (k : Nat) (hk : k ≤ s.size) (N : Nat) (HN : Hid (k + twAt isDig s k = N)) (w : World) (h : Sc w sb s k) :
    Calls Tryz.prog 108 #[.pointer (some ⟨sb, 0, none⟩), .func (.func 84) #[] #[]] w fun e w' => e = .returned (.string (s.extract k N)) ∧ Sc w' sb s N ∧ w.grownBy w' (some sb) := by
  have HS := Hid.out (p := Hid _) h
  have h0 := h.c0
  have h1 := h.c1
  clear h
  go_enter Tryz.func108, Tryz.ntmps108
  go_wp2
  clear h0 h1
  obtain ⟨W, rfl⟩ : ∃ V, V = w := ⟨_, rfl⟩
  go_loopw [10] (fun _ wr => ∃ j : Nat, k ≤ j ∧ j ≤ s.size ∧ Hid (j + twAt isDig s j = N) ∧ Hid (Sc wr sb s j ∧ W.grownBy wr (some sb))) (fun _ wr => s.size - atOf wr sb)
  case atStart => exact ⟨k, Nat.le_refl _, hk, HN, ⟨HS.out, World.grownBy.refl _ _⟩⟩
  case round =>
    obtain ⟨j, hj1, hj2, HJ, HW⟩ := hrel
    have h0 := HW.out.1.c0
    have h1 := HW.out.1.c1
    have hf := HW.out.1.fr
    by_cases hlt : j < s.size
    · have hlt' : (j : Int) < (s.size : Int) := by omega
      cases hd : isDig s[j] with
      | true =>
        have HJ2 : Hid (j + 1 + twAt isDig s (j + 1) = N) := by
          have := HJ.out
          rw [twAt_more hlt hd] at this
          show _ = _
          omega
        have HW2 : Hid (Sc (wr.setCell ⟨sb, 1, none⟩ (.int .i64 ((j : Int) + 1))).drew sb s (j + 1) ∧ W.grownBy (wr.setCell ⟨sb, 1, none⟩ (.int .i64 ((j : Int) + 1))).drew (some sb)) :=
          ⟨(HW.out.1.set (j + 1)).below (Below.refl _ _).drew, grown_then HW.out.2 (grown_then (grown_set _ _ _ _) (grown_of_below (Below.refl _ _).drew _))⟩
        have ha : atOf wr sb = j := HW.out.1.at
        go_wp2_with fail
        refine region_tail 21 (by kernel_rfl) (by kernel_rfl) ?_
        simp only [List.take_succ_cons, List.take_zero, List.drop_succ_cons, List.drop_zero]
        repeat still_step
        refine wpStill_nil ?_
        go_wp2_with fail
        refine Calls.mono (pdig_any s[j] _) ?_
        rintro e w' ⟨rfl, rfl⟩
        rw [hd]
        go_wp2_with fail
        go_roundw
        case rel => exact ⟨j + 1, by omega, by omega, HJ2, HW2⟩
        case measure => rw [HW2.out.1.at, ha]; omega
      | false =>
        have HJN : Hid (j = N) := by
          have := HJ.out
          rw [twAt_stop hlt hd] at this
          show _ = _
          omega
        go_wp2_with fail
        refine region_tail 21 (by kernel_rfl) (by kernel_rfl) ?_
        simp only [List.take_succ_cons, List.take_zero, List.drop_succ_cons, List.drop_zero]
        repeat still_step
        refine wpStill_nil ?_
        go_wp2_with fail
        refine Calls.mono (pdig_any s[j] _) ?_
        rintro e w' ⟨rfl, rfl⟩
        rw [hd]
        go_wp2_with fail
        have hle1 : (k : Int) ≤ (j : Int) := by omega
        have hle2 : (j : Int) ≤ (s.size : Int) := by omega
        go_quiet (fail)
        go_wp2
        go_ret
        obtain rfl := HJN.out
        exact ⟨rfl, HW.out.1.below (below_drewN (Below.refl _ _).drew), grown_then HW.out.2 (grown_of_below (below_drewN (Below.refl _ _).drew) _)⟩
    · have hlt' : decide ((j : Int) < (s.size : Int)) = false := by simpa using hlt
      have HJN : Hid (j = N) := by
        have := HJ.out
        rw [twAt_end (by omega)] at this
        show _ = _
        omega
      go_wp2_with fail
      go_quiet (fail)
      go_wp2_with fail
      have hle1 : (k : Int) ≤ (j : Int) := by omega
      have hle2 : (j : Int) ≤ (s.size : Int) := by omega
      go_quiet (fail)
      go_wp2
      go_ret
      obtain rfl := HJN.out
      exact ⟨rfl, HW.out.1.below (below_drewN (below_drewN (Below.refl _ _))), grown_then HW.out.2 (grown_of_below (below_drewN (below_drewN (Below.refl _ _))) _)⟩

theorem pnam_any (c : UInt8) (w : World) :
    Calls Tryz.prog 110 #[.int .u8 (c.toNat : Int)] w fun e w' => e = .returned (.bool (isNam c)) ∧ w' = w := by
  cases hl : isLet c
  all_goals cases hd : isDig c
  all_goals
    go_enter Tryz.func110, Tryz.ntmps110
    go_wp2_with (first | (go_at_call 82; refine (plet_any c _).mono ?_; rintro e w' ⟨rfl, rfl⟩; rw [hl]) | (go_at_call 84; refine (pdig_any c _).mono ?_; rintro e w' ⟨rfl, rfl⟩; rw [hd]))
    go_ret
    exact ⟨ret_bool (by simp [isNam, hl, hd]), rfl⟩

set_option maxRecDepth 100000 in
set_option maxHeartbeats 1600000 in
theorem take_nam (sb : Nat) (s : ByteArray) (hs : s.size ≤ 4000) (k : Nat) (hk : k ≤ s.size) (N : Nat) (HN : Hid (k + twAt isNam s k = N)) (w : World) (h : Sc w sb s k) :
    Calls Tryz.prog 108 #[.pointer (some ⟨sb, 0, none⟩), .func (.func 110) #[] #[]] w fun e w' => e = .returned (.string (s.extract k N)) ∧ Sc w' sb s N ∧ w.grownBy w' (some sb) := by
  have HS := Hid.out (p := Hid _) h
  have h0 := h.c0
  have h1 := h.c1
  clear h
  go_enter Tryz.func108, Tryz.ntmps108
  go_wp2
  clear h0 h1
  obtain ⟨W, rfl⟩ : ∃ V, V = w := ⟨_, rfl⟩
  go_loopw [10] (fun _ wr => ∃ j : Nat, k ≤ j ∧ j ≤ s.size ∧ Hid (j + twAt isNam s j = N) ∧ Hid (Sc wr sb s j ∧ W.grownBy wr (some sb))) (fun _ wr => s.size - atOf wr sb)
  case atStart => exact ⟨k, Nat.le_refl _, hk, HN, ⟨HS.out, World.grownBy.refl _ _⟩⟩
  case round =>
    obtain ⟨j, hj1, hj2, HJ, HW⟩ := hrel
    have h0 := HW.out.1.c0
    have h1 := HW.out.1.c1
    have hf := HW.out.1.fr
    by_cases hlt : j < s.size
    · have hlt' : (j : Int) < (s.size : Int) := by omega
      cases hd : isNam s[j] with
      | true =>
        have HJ2 : Hid (j + 1 + twAt isNam s (j + 1) = N) := by
          have := HJ.out
          rw [twAt_more hlt hd] at this
          show _ = _
          omega
        have HW2 : Hid (Sc (wr.setCell ⟨sb, 1, none⟩ (.int .i64 ((j : Int) + 1))).drew sb s (j + 1) ∧ W.grownBy (wr.setCell ⟨sb, 1, none⟩ (.int .i64 ((j : Int) + 1))).drew (some sb)) :=
          ⟨(HW.out.1.set (j + 1)).below (Below.refl _ _).drew, grown_then HW.out.2 (grown_then (grown_set _ _ _ _) (grown_of_below (Below.refl _ _).drew _))⟩
        have ha : atOf wr sb = j := HW.out.1.at
        go_wp2_with fail
        refine region_tail 21 (by kernel_rfl) (by kernel_rfl) ?_
        simp only [List.take_succ_cons, List.take_zero, List.drop_succ_cons, List.drop_zero]
        repeat still_step
        refine wpStill_nil ?_
        go_wp2_with fail
        refine Calls.mono (pnam_any s[j] _) ?_
        rintro e w' ⟨rfl, rfl⟩
        rw [hd]
        go_wp2_with fail
        go_roundw
        case rel => exact ⟨j + 1, by omega, by omega, HJ2, HW2⟩
        case measure => rw [HW2.out.1.at, ha]; omega
      | false =>
        have HJN : Hid (j = N) := by
          have := HJ.out
          rw [twAt_stop hlt hd] at this
          show _ = _
          omega
        go_wp2_with fail
        refine region_tail 21 (by kernel_rfl) (by kernel_rfl) ?_
        simp only [List.take_succ_cons, List.take_zero, List.drop_succ_cons, List.drop_zero]
        repeat still_step
        refine wpStill_nil ?_
        go_wp2_with fail
        refine Calls.mono (pnam_any s[j] _) ?_
        rintro e w' ⟨rfl, rfl⟩
        rw [hd]
        go_wp2_with fail
        have hle1 : (k : Int) ≤ (j : Int) := by omega
        have hle2 : (j : Int) ≤ (s.size : Int) := by omega
        go_quiet (fail)
        go_wp2
        go_ret
        obtain rfl := HJN.out
        exact ⟨rfl, HW.out.1.below (below_drewN (Below.refl _ _).drew), grown_then HW.out.2 (grown_of_below (below_drewN (Below.refl _ _).drew) _)⟩
    · have hlt' : decide ((j : Int) < (s.size : Int)) = false := by simpa using hlt
      have HJN : Hid (j = N) := by
        have := HJ.out
        rw [twAt_end (by omega)] at this
        show _ = _
        omega
      go_wp2_with fail
      go_quiet (fail)
      go_wp2_with fail
      have hle1 : (k : Int) ≤ (j : Int) := by omega
      have hle2 : (j : Int) ≤ (s.size : Int) := by omega
      go_quiet (fail)
      go_wp2
      go_ret
      obtain rfl := HJN.out
      exact ⟨rfl, HW.out.1.below (below_drewN (below_drewN (Below.refl _ _))), grown_then HW.out.2 (grown_of_below (below_drewN (below_drewN (Below.refl _ _))) _)⟩
end

end Go.Proofs.YtclnjhffcfkihaeGreatDoor
