/-
  The document's one token: numbers.
  The document's Scan.
-/
import Derived.Test.YtggfbfjdiikaeaaGreatDoorLexZ4
import Derived.Test.YtggfbfjdiikaeaaGreatDoorPlain
namespace Go.Proofs.YtggfbfjdiikaeaaGreatDoor
section
open Go.RowKit

theorem wrap64_is {n : Int} (h : -9223372036854775808 ≤ n ∧ n ≤ 9223372036854775807) : wrap64 n = n := by unfold wrap64; omega
theorem take_more (s : ByteArray) (i k : Nat) (h : i + k < s.size) : (s.data.toList.drop i).take (k + 1) = (s.data.toList.drop i).take k ++ [s[i + k]] := by
  have hl : s.data.toList.length = s.size := by simp
  rw [List.take_succ_eq_append_getElem (by rw [List.length_drop, hl]; omega)]
  simp only [List.getElem_drop]
  rfl
theorem mag_nine (l : List UInt8) (h : l.all isDig = true) (k : Nat) : mag (l.take (min k 9)) < 1000000000 := by
  have h1 := magFrom_lt (l.take (min k 9)) 0 (by rw [List.all_eq_true] at h ⊢; exact fun x hx => h x (List.mem_of_mem_take hx))
  have h2 : 10 ^ (l.take (min k 9)).length ≤ 10 ^ 9 := Nat.pow_le_pow_right (by omega) (by rw [List.length_take]; omega)
  have h3 : magFrom 0 (l.take (min k 9)) = mag (l.take (min k 9)) := rfl
  omega

theorem nine_of {l : List UInt8} {k m : Nat} (hm : m = mag (l.take (min k 9))) (ha : (l.take k).all isDig = true) : m < 1000000000 := by
  have := mag_nine _ ha k
  rw [List.take_take, Nat.min_eq_left (by omega), ← hm] at this
  exact this

set_option maxRecDepth 100000 in
set_option maxHeartbeats 3200000 in
theorem rone_num (s : ByteArray) (hs : s.size ≤ 4000) (i : Nat) (hi : i < s.size) (hl : isLet s[i] = false) (hd : isDig s[i] = true) (N : Nat) (HN : Hid (1 + twAt isDig s (i + 1) = N)) (w : World) :
    Calls Tryz.prog 50 #[.string s, .int .i64 (i : Int)] w fun e w' => OneQ s i e ∧ Below w.heap.size w w' := by
  have hq : ∀ e, OneQ s i e = (match (if 9 < N ∨ (1 < N ∧ s[i].toNat = 48) then none else some ((3 : Int), (mag (s.extract i (i + N)).data.toList : Int), N)) with
      | none => e = .returned (.tuple #[.agg #[.int .i64 0, .int .i64 0, .int .i64 0, .string ⟨#[]⟩], .int .i64 0, .int .i64 5])
      | some (k, v, m) => e = .returned (.tuple #[.agg #[.int .i64 k, .int .i64 v, .int .i64 i, .string (s.extract i (i + m))], .int .i64 m, .int .i64 0])) := fun e => by
    unfold OneQ; rw [oneL_num hi hl hd HN.out]; first | done | rfl
  have HQ := Hid.out (p := Hid _) hq
  clear hq
  have hd1 : 48 ≤ (s[i].toNat : Int) := by simp [isDig] at hd; omega
  have hd2 : (s[i].toNat : Int) ≤ 57 := by simp [isDig] at hd; omega
  have HA0 : Hid (((s.data.toList.drop i).take 1).all isDig = true) := by
    show _ = _
    rw [drop_at s i hi]; simp [hd]
  have HM0 : Hid (s[i].toNat - 48 = mag ((s.data.toList.drop i).take (min 1 9))) := by
    show _ = _
    rw [drop_at s i hi]; simp [mag]
  go_enter Tryz.func50, Tryz.ntmps50
  go_wp2_with (first | (go_at_call 69; refine (rlet_any s[i] _).mono ?_; rintro e w' ⟨rfl, rfl⟩; rw [hl]) | (go_at_call 70; refine (rdig_any s[i] _).mono ?_; rintro e w' ⟨rfl, rfl⟩; rw [hd]))
  go_loop [7, 12] (fun n v => ∃ k m : Nat, 1 ≤ k ∧ i + k ≤ s.size ∧ n = .int .i64 k ∧ v = .int .i64 (m : Int) ∧ Hid (k + twAt isDig s (i + k) = N) ∧ Hid (m = mag ((s.data.toList.drop i).take (min k 9))) ∧ Hid (((s.data.toList.drop i).take k).all isDig = true)) (fun n _ => s.size - (intOf n).toNat)
  case atStart => exact ⟨1, s[i].toNat - 48, Nat.le_refl _, hi, rfl, by go_num, HN, HM0, HA0⟩
  case round =>
    obtain ⟨k, m, hk1, hk, rfl, rfl, HK, HM, HA⟩ := hrel
    by_cases hlt : i + k < s.size
    · have hlt' : (i : Int) + (k : Int) < (s.size : Int) := by omega
      cases hb : isDig s[i + k] with
      | true =>
        have hb1 : 48 ≤ (s[i + k].toNat : Int) := by simp [isDig] at hb; omega
        have hb2 : (s[i + k].toNat : Int) ≤ 57 := by simp [isDig] at hb; omega
        have HN' : Hid (k + 1 + twAt isDig s (i + (k + 1)) = N) := by
          have := HK.out
          rw [twAt_more hlt hb] at this
          show _ = _
          rw [← this, ← Nat.add_assoc]; omega
        have HA' : Hid (((s.data.toList.drop i).take (k + 1)).all isDig = true) := by
          show _ = _
          rw [take_more s i k hlt, List.all_append, HA.out]; simp [hb]
        by_cases h9 : (k : Int) < 9
        · have HM' : Hid (m * 10 + (s[i + k].toNat - 48) = mag ((s.data.toList.drop i).take (min (k + 1) 9))) := by
            have := HM.out
            show _ = _
            rw [Nat.min_eq_left (by omega)] at this ⊢
            rw [take_more s i k hlt, mag_snoc, this]
          clear HK
          go_wp2_with (first | (go_at_call 70; refine (rdig_any s[i + k] _).mono ?_; rintro e w' ⟨rfl, rfl⟩; rw [hb]))
          have hm9 := nine_of HM.out HA.out
          go_round
          case rel => exact ⟨k + 1, m * 10 + (s[i + k].toNat - 48), by omega, by omega, by go_num, by rw [wrap64_is (n := 10 * (m : Int)) (by omega), wrap64_is (by omega)]; congr 1; omega, HN', HM', HA'⟩
          case measure => simp [intOf]; omega
        · have HM' : Hid (m = mag ((s.data.toList.drop i).take (min (k + 1) 9))) := by
            have := HM.out
            show _ = _
            rw [Nat.min_eq_right (by omega)] at this ⊢
            exact this
          clear HK
          go_wp2_with (first | (go_at_call 70; refine (rdig_any s[i + k] _).mono ?_; rintro e w' ⟨rfl, rfl⟩; rw [hb]))
          go_round
          case rel => exact ⟨k + 1, m, by omega, by omega, by go_num, rfl, HN', HM', HA'⟩
          case measure => simp [intOf]; omega
      | false =>
        have hkN : k = N := by
          have := HK.out
          rw [twAt_stop hlt hb] at this
          omega
        subst hkN
        have hle : (i : Int) + (k : Int) ≤ (s.size : Int) := by omega
        clear HK HN
        by_cases h9 : 9 < k
        · have HQ' : Hid (∀ e, OneQ s i e = (e = .returned (.tuple #[.agg #[.int .i64 0, .int .i64 0, .int .i64 0, .string ⟨#[]⟩], .int .i64 0, .int .i64 5]))) := fun e => by rw [HQ.out e, if_pos (Or.inl h9)]
          have h9' : 9 < (k : Int) := by omega
          clear HQ HM HA
          go_wp2_with (first | (go_at_call 70; refine (rdig_any s[i + k] _).mono ?_; rintro e w' ⟨rfl, rfl⟩; rw [hb]))
          exact bodyPost_ret (v := (.tuple #[.agg #[.int .i64 0, .int .i64 0, .int .i64 0, .string ⟨#[]⟩], .int .i64 0, .int .i64 5])) (by simp [results, Tryz.results50, go_sem]) rfl ⟨by rw [HQ'.out], (Below.refl _ _).alloc (Nat.le_refl _) _⟩
        · have h9' : ¬ 9 < (k : Int) := by omega
          have hm : m = mag (s.extract i (i + k)).data.toList := by
            rw [HM.out, ext_list, Nat.add_sub_cancel_left, Nat.min_eq_left (by omega)]
          by_cases h1 : 1 < k
          · have h1' : 1 < (k : Int) := by omega
            by_cases h48 : s[i].toNat = 48
            · have HQ' : Hid (∀ e, OneQ s i e = (e = .returned (.tuple #[.agg #[.int .i64 0, .int .i64 0, .int .i64 0, .string ⟨#[]⟩], .int .i64 0, .int .i64 5]))) := fun e => by rw [HQ.out e, if_pos (Or.inr ⟨h1, h48⟩)]
              have e48 : ((s[i].toNat : Int) == 48) = true := by simp; omega
              clear HQ HM HA h48 hm
              go_wp2_with (first | (go_at_call 70; refine (rdig_any s[i + k] _).mono ?_; rintro e w' ⟨rfl, rfl⟩; rw [hb]))
              exact bodyPost_ret (v := (.tuple #[.agg #[.int .i64 0, .int .i64 0, .int .i64 0, .string ⟨#[]⟩], .int .i64 0, .int .i64 5])) (by simp [results, Tryz.results50, go_sem]) rfl ⟨by rw [HQ'.out], (Below.refl _ _).alloc (Nat.le_refl _) _⟩
            · have HQ' : Hid (∀ e, OneQ s i e = (e = .returned (.tuple #[.agg #[.int .i64 3, .int .i64 (m : Int), .int .i64 i, .string (s.extract i (i + k))], .int .i64 k, .int .i64 0]))) := fun e => by rw [HQ.out e, if_neg (by omega), hm]
              have e48 : ((s[i].toNat : Int) == 48) = false := by rw [beq_eq_false_iff_ne]; omega
              clear HQ HM HA h48 hm
              go_wp2_with (first | (go_at_call 70; refine (rdig_any s[i + k] _).mono ?_; rintro e w' ⟨rfl, rfl⟩; rw [hb]))
              exact bodyPost_ret (v := (.tuple #[.agg #[.int .i64 3, .int .i64 (m : Int), .int .i64 i, .string (s.extract i (i + k))], .int .i64 k, .int .i64 0])) (by simp [results, Tryz.results50, go_sem]) rfl ⟨by rw [HQ'.out], (Below.refl _ _).alloc (Nat.le_refl _) _⟩
          · have h1' : ¬ 1 < (k : Int) := by omega
            have HQ' : Hid (∀ e, OneQ s i e = (e = .returned (.tuple #[.agg #[.int .i64 3, .int .i64 (m : Int), .int .i64 i, .string (s.extract i (i + k))], .int .i64 k, .int .i64 0]))) := fun e => by rw [HQ.out e, if_neg (by omega), hm]
            clear HQ HM HA hm
            go_wp2_with (first | (go_at_call 70; refine (rdig_any s[i + k] _).mono ?_; rintro e w' ⟨rfl, rfl⟩; rw [hb]))
            exact bodyPost_ret (v := (.tuple #[.agg #[.int .i64 3, .int .i64 (m : Int), .int .i64 i, .string (s.extract i (i + k))], .int .i64 k, .int .i64 0])) (by simp [results, Tryz.results50, go_sem]) rfl ⟨by rw [HQ'.out], (Below.refl _ _).alloc (Nat.le_refl _) _⟩
    · have hlt' : ¬ (i : Int) + (k : Int) < (s.size : Int) := by omega
      have hkN : k = N := by
        have := HK.out
        rw [twAt_end (by omega)] at this
        omega
      subst hkN
      have hle : (i : Int) + (k : Int) ≤ (s.size : Int) := by omega
      clear HK HN
      by_cases h9 : 9 < k
      · have HQ' : Hid (∀ e, OneQ s i e = (e = .returned (.tuple #[.agg #[.int .i64 0, .int .i64 0, .int .i64 0, .string ⟨#[]⟩], .int .i64 0, .int .i64 5]))) := fun e => by rw [HQ.out e, if_pos (Or.inl h9)]
        have h9' : 9 < (k : Int) := by omega
        clear HQ HM HA
        go_wp2_with (first | fail)
        exact bodyPost_ret (v := (.tuple #[.agg #[.int .i64 0, .int .i64 0, .int .i64 0, .string ⟨#[]⟩], .int .i64 0, .int .i64 5])) (by simp [results, Tryz.results50, go_sem]) rfl ⟨by rw [HQ'.out], (Below.refl _ _).alloc (Nat.le_refl _) _⟩
      · have h9' : ¬ 9 < (k : Int) := by omega
        have hm : m = mag (s.extract i (i + k)).data.toList := by
          rw [HM.out, ext_list, Nat.add_sub_cancel_left, Nat.min_eq_left (by omega)]
        by_cases h1 : 1 < k
        · have h1' : 1 < (k : Int) := by omega
          by_cases h48 : s[i].toNat = 48
          · have HQ' : Hid (∀ e, OneQ s i e = (e = .returned (.tuple #[.agg #[.int .i64 0, .int .i64 0, .int .i64 0, .string ⟨#[]⟩], .int .i64 0, .int .i64 5]))) := fun e => by rw [HQ.out e, if_pos (Or.inr ⟨h1, h48⟩)]
            have e48 : ((s[i].toNat : Int) == 48) = true := by simp; omega
            clear HQ HM HA h48 hm
            go_wp2_with (first | fail)
            exact bodyPost_ret (v := (.tuple #[.agg #[.int .i64 0, .int .i64 0, .int .i64 0, .string ⟨#[]⟩], .int .i64 0, .int .i64 5])) (by simp [results, Tryz.results50, go_sem]) rfl ⟨by rw [HQ'.out], (Below.refl _ _).alloc (Nat.le_refl _) _⟩
          · have HQ' : Hid (∀ e, OneQ s i e = (e = .returned (.tuple #[.agg #[.int .i64 3, .int .i64 (m : Int), .int .i64 i, .string (s.extract i (i + k))], .int .i64 k, .int .i64 0]))) := fun e => by rw [HQ.out e, if_neg (by omega), hm]
            have e48 : ((s[i].toNat : Int) == 48) = false := by rw [beq_eq_false_iff_ne]; omega
            clear HQ HM HA h48 hm
            go_wp2_with (first | fail)
            exact bodyPost_ret (v := (.tuple #[.agg #[.int .i64 3, .int .i64 (m : Int), .int .i64 i, .string (s.extract i (i + k))], .int .i64 k, .int .i64 0])) (by simp [results, Tryz.results50, go_sem]) rfl ⟨by rw [HQ'.out], (Below.refl _ _).alloc (Nat.le_refl _) _⟩
        · have h1' : ¬ 1 < (k : Int) := by omega
          have HQ' : Hid (∀ e, OneQ s i e = (e = .returned (.tuple #[.agg #[.int .i64 3, .int .i64 (m : Int), .int .i64 i, .string (s.extract i (i + k))], .int .i64 k, .int .i64 0]))) := fun e => by rw [HQ.out e, if_neg (by omega), hm]
          clear HQ HM HA hm
          go_wp2_with (first | fail)
          exact bodyPost_ret (v := (.tuple #[.agg #[.int .i64 3, .int .i64 (m : Int), .int .i64 i, .string (s.extract i (i + k))], .int .i64 k, .int .i64 0])) (by simp [results, Tryz.results50, go_sem]) rfl ⟨by rw [HQ'.out], (Below.refl _ _).alloc (Nat.le_refl _) _⟩


set_option maxRecDepth 100000 in
set_option maxHeartbeats 1600000 in
theorem rone_sign (s : ByteArray) (hs : s.size ≤ 4000) (i : Nat) (hi : i < s.size) (hl : isLet s[i] = false) (hd : isDig s[i] = false) (w : World) :
    Calls Tryz.prog 50 #[.string s, .int .i64 (i : Int)] w fun e w' => OneQ s i e ∧ Below w.heap.size w w' := by
  obtain ⟨N, hN⟩ : ∃ N, N = signN (s.data.toList.drop i) := ⟨_, rfl⟩
  have hle : i + N ≤ s.size := by
    have h1 := signN_le (s.data.toList.drop i)
    have h2 : s.data.toList.length = s.size := by simp
    rw [← hN, List.length_drop] at h1
    omega
  have hle' : (i : Int) + (N : Int) ≤ (s.size : Int) := by omega
  have HN : Hid (N = signN (s.data.toList.drop i)) := hN
  clear hN
  by_cases h0 : N = 0
  · have HQ' : Hid (∀ e, OneQ s i e = (e = .returned (.tuple #[.agg #[.int .i64 0, .int .i64 0, .int .i64 0, .string ⟨#[]⟩], .int .i64 0, .int .i64 5]))) := fun e => by
      unfold OneQ; rw [oneL_sign hi hl hd, if_pos (by rw [← HN.out]; exact h0)]
    subst h0
    go_enter Tryz.func50, Tryz.ntmps50
    go_wp2_with (first | (go_at_call 69; refine (rlet_any s[i] _).mono ?_; rintro e w' ⟨rfl, rfl⟩; rw [hl]) | (go_at_call 70; refine (rdig_any s[i] _).mono ?_; rintro e w' ⟨rfl, rfl⟩; rw [hd]) | (go_at_call 72; refine (rsign_any s hs i hi _).mono ?_; rintro e w' ⟨rfl, rfl⟩; rw [← HN.out]))
    exact bodyPost_ret (v := (.tuple #[.agg #[.int .i64 0, .int .i64 0, .int .i64 0, .string ⟨#[]⟩], .int .i64 0, .int .i64 5])) (by simp [results, Tryz.results50, go_sem]) rfl ⟨by rw [HQ'.out], (Below.refl _ _).alloc (Nat.le_refl _) _⟩
  · have HQ' : Hid (∀ e, OneQ s i e = (e = .returned (.tuple #[.agg #[.int .i64 4, .int .i64 0, .int .i64 i, .string (s.extract i (i + N))], .int .i64 N, .int .i64 0]))) := fun e => by
      unfold OneQ; rw [oneL_sign hi hl hd, if_neg (by rw [← HN.out]; exact h0), ← HN.out]
    have e0 : ((N : Int) == 0) = false := by rw [beq_eq_false_iff_ne]; omega
    clear h0
    go_enter Tryz.func50, Tryz.ntmps50
    go_wp2_with (first | (go_at_call 69; refine (rlet_any s[i] _).mono ?_; rintro e w' ⟨rfl, rfl⟩; rw [hl]) | (go_at_call 70; refine (rdig_any s[i] _).mono ?_; rintro e w' ⟨rfl, rfl⟩; rw [hd]) | (go_at_call 72; refine (rsign_any s hs i hi _).mono ?_; rintro e w' ⟨rfl, rfl⟩; rw [← HN.out]))
    exact bodyPost_ret (v := (.tuple #[.agg #[.int .i64 4, .int .i64 0, .int .i64 i, .string (s.extract i (i + N))], .int .i64 N, .int .i64 0])) (by simp [results, Tryz.results50, go_sem]) rfl ⟨by rw [HQ'.out], (Below.refl _ _).alloc (Nat.le_refl _) _⟩

/-- The document's one token, of every byte. -/
theorem rone_any (s : ByteArray) (hs : s.size ≤ 4000) (i : Nat) (hi : i < s.size) (w : World) :
    Calls Tryz.prog 50 #[.string s, .int .i64 (i : Int)] w fun e w' => OneQ s i e ∧ Below w.heap.size w w' := by
  cases hl : isLet s[i] with
  | true => exact rone_name s hs i hi hl _ (rfl : _ = _) w
  | false =>
    cases hd : isDig s[i] with
    | true => exact rone_num s hs i hi hl hd _ (rfl : _ = _) w
    | false => exact rone_sign s hs i hi hl hd w
end

section
open Go.RowKit

section
variable {s : ByteArray} {p E f : Nat} {acc : List Tok}
theorem skAt_drop {B : Bool} (h : skAt s false p = (E, B)) : p + (skipL false (s.data.toList.drop p)).1 = E ∧ (skipL false (s.data.toList.drop p)).2 = B ∧ (s.data.toList.drop p).drop (skipL false (s.data.toList.drop p)).1 = s.data.toList.drop E := by
  simp only [skAt, Prod.mk.injEq] at h
  refine ⟨h.1, h.2, ?_⟩
  rw [List.drop_drop, h.1]
theorem scanF_bad (h : skAt s false p = (E, true)) : scanF (f + 1) p (s.data.toList.drop p) acc = ([], 4, (E : Int)) := by
  obtain ⟨h1, h2, h3⟩ := skAt_drop h
  rw [scanF, if_pos h2, h1]
theorem scanF_end (h : skAt s false p = (E, false)) (hE : s.size ≤ E) : scanF (f + 1) p (s.data.toList.drop p) acc = (acc, 0, 0) := by
  obtain ⟨h1, h2, h3⟩ := skAt_drop h
  rw [scanF, if_neg (by simp [h2]), h3, if_pos (drop_over s E hE)]
theorem scanF_none (h : skAt s false p = (E, false)) (hE : E < s.size) (ho : oneL (s.data.toList.drop E) = none) : scanF (f + 1) p (s.data.toList.drop p) acc = ([], 5, (E : Int)) := by
  obtain ⟨h1, h2, h3⟩ := skAt_drop h
  rw [scanF, if_neg (by simp [h2]), h3, if_neg (by rw [drop_at s E hE]; simp), ho, h1]
theorem scanF_more (h : skAt s false p = (E, false)) (hE : E < s.size) {k v : Int} {m : Nat} (ho : oneL (s.data.toList.drop E) = some (k, v, m)) :
    scanF (f + 1) p (s.data.toList.drop p) acc = scanF f (E + m) (s.data.toList.drop (E + m)) (acc ++ [⟨k, v, (E : Int), (s.data.toList.drop E).take m⟩]) := by
  obtain ⟨h1, h2, h3⟩ := skAt_drop h
  rw [scanF, if_neg (by simp [h2]), h3, if_neg (by rw [drop_at s E hE]; simp), ho]
  simp only [h1, List.drop_drop]
theorem oneL_at {i m : Nat} {k v : Int} (hi : i < s.size) (ho : oneL (s.data.toList.drop i) = some (k, v, m)) : 1 ≤ m ∧ i + m ≤ s.size := by
  have h1 := oneL_len ho
  have h2 : s.data.toList.length = s.size := by simp
  rw [List.length_drop, h2] at h1
  omega
end

/-- What Scan tells: the tokens' slice, the fault. -/
def ScanQ (B : Nat) (r : List Tok × (Int × Int)) (e : Ending) (w' : World) : Prop :=
  ∃ v, e = .returned (.tuple #[v, .agg #[.int .i64 r.2.1, .int .i64 0, .int .i64 r.2.2]]) ∧ OwnT w' B v r.1

attribute [local go_sem ↓] appS_eq

set_option maxRecDepth 100000 in
set_option maxHeartbeats 1600000 in
theorem rscan_long (s : ByteArray) (hl : 4000 < s.size) (w : World) :
    Calls Tryz.prog 25 #[.string s] w fun e w' => ScanQ w.heap.size (scanL s.data.toList) e w' ∧ Below w.heap.size w w' := by
  have hl' : (4000 : Int) < (s.size : Int) := by omega
  go_enter Tryz.func25, Tryz.ntmps25
  go_wp2
  have hq : scanL s.data.toList = ([], 1, 0) := by
    unfold scanL
    rw [if_pos (by rw [← Lib.size_eq]; exact hl)]
  rw [hq]
  exact bodyPost_ret (v := .tuple #[nilV, .agg #[.int .i64 1, .int .i64 0, .int .i64 0]]) (by simp [results, Tryz.results25, go_sem]) rfl ⟨⟨nilV, rfl, ownT_nil _ _⟩, (Below.refl _ _).alloc (Nat.le_refl _) _⟩

/-- A round of the document's Scan. -/
structure ScI (S wr : World) (s : ByteArray) (R : List Tok × (Int × Int)) (lv : Value) (E : Nat) (B : Bool) (p f : Nat) (acc : List Tok) : Prop where
  sk : skAt s false p = (E, B)
  fuel : s.size < p + f
  num : acc.length ≤ p
  pos : p ≤ s.size
  is : scanF f p (s.data.toList.drop p) acc = R
  own : OwnT wr S.heap.size lv acc
  low : Below S.heap.size S wr

set_option maxRecDepth 100000 in
set_option maxHeartbeats 3200000 in
theorem rscan_short (s : ByteArray) (hs : s.size ≤ 4000) (R : List Tok × (Int × Int)) (HR : Hid (scanL s.data.toList = R)) (w : World) :
    Calls Tryz.prog 25 #[.string s] w fun e w' => ScanQ w.heap.size R e w' ∧ Below w.heap.size w w' := by
  obtain ⟨⟨E, B⟩, hE⟩ : ∃ x, skAt s false 0 = x := ⟨_, rfl⟩
  have HE : Hid (skAt s false 0 = (E, B)) := hE
  have hs' : ¬ (4000 : Int) < (s.size : Int) := by omega
  obtain ⟨S, hS⟩ : ∃ V, w.alloc (.cells #[.int .i64 0, .int .i64 0, .int .i64 0] 25) = V := ⟨_, rfl⟩
  have HS := Hid.out (p := Hid _) hS
  have HSB : Hid (Below w.heap.size w S ∧ S.heap[w.heap.size]? = some (.cells #[.int .i64 0, .int .i64 0, .int .i64 0] 25)) := by
    show _ ∧ _
    rw [← hS]
    exact ⟨(Below.refl _ _).alloc (Nat.le_refl _) _, heap_alloc_new _ _⟩
  have HI0 : Hid (ScI S S s R nilV E B 0 (s.size + 1) []) := by
    refine ⟨hE, by omega, by simp, by omega, ?_, ownT_nil _ _, Below.refl _ _⟩
    have := HR.out
    unfold scanL at this
    rw [if_neg (by rw [← Lib.size_eq]; omega)] at this
    rw [← this, List.drop_zero, ← Lib.size_eq]
  clear hE hS
  go_enter Tryz.func25, Tryz.ntmps25
  go_wp2_with (first | (go_at_call 49; refine (rskip_any s hs 0 (Nat.zero_le _) E B HE _).mono ?_; rintro e w' ⟨rfl, rfl⟩))
  rw [HS.out]
  go_loopw [4, 5, 6] (fun l i b wr => ∃ (E : Nat) (B : Bool) (p f : Nat) (acc : List Tok), i = .int .i64 (E : Int) ∧ b = .bool B ∧ Hid (ScI S wr s R l E B p f acc)) (fun _ i _ _ => s.size - (intOf i).toNat)
  case atStart => exact ⟨E, B, 0, s.size + 1, [], rfl, rfl, HI0⟩
  case round =>
    obtain ⟨E, B, p, f, acc, rfl, rfl, HI⟩ := hrel
    have hlow : Below w.heap.size w wr := HSB.out.1.trans (HI.out.low.mono HSB.out.1.size)
    have hSlt : w.heap.size < S.heap.size := by
      have h2 := HSB.out.2
      rcases Nat.lt_or_ge w.heap.size S.heap.size with h | h
      · exact h
      · rw [Array.getElem?_eq_none h] at h2; cases h2
    have hbx : wr.heap[w.heap.size]? = some (.cells #[.int .i64 0, .int .i64 0, .int .i64 0] 25) := (HI.out.low.block _ hSlt).trans HSB.out.2
    have hwl : w.heap.size < wr.heap.size := Nat.lt_of_lt_of_le hSlt HI.out.low.size
    have hf : f = f - 1 + 1 := by have := HI.out.fuel; have := HI.out.pos; omega
    have HB : Hid (∀ V, Below wr.heap.size wr V → V.heap[w.heap.size]? = some (.cells #[.int .i64 0, .int .i64 0, .int .i64 0] 25)) := fun V hV => (hV.block _ hwl).trans hbx
    have HLow := Hid.out (p := Hid _) hlow
    clear hlow
    cases B with
    | true =>
      have HQ : Hid (R = ([], 4, (E : Int))) := by
        have h1 := HI.out.is
        rw [hf] at h1
        exact h1.symm.trans (scanF_bad HI.out.sk)
      clear hf
      have p0 : wr.cell? ⟨w.heap.size, 0, none⟩ = some (.int .i64 0) := box_cell hbx rfl
      have p1 : wr.cell? ⟨w.heap.size, 1, none⟩ = some (.int .i64 0) := box_cell hbx rfl
      have p2 : wr.cell? ⟨w.heap.size, 2, none⟩ = some (.int .i64 0) := box_cell hbx rfl
      have pf : ∀ i, wr.frozen? ⟨w.heap.size, i, none⟩ = false := fun i => box_free hbx
      by_cases hlt : (E : Int) < (s.size : Int)
      all_goals
        go_wp2
        refine bodyPost_ret (v := .tuple #[nilV, .agg #[.int .i64 4, .int .i64 0, .int .i64 (E : Int)]]) (by simp [results, Tryz.results25, go_sem, p0, p1, p2]) rfl ⟨?_, ?_⟩
        · rw [HQ.out]
          exact ⟨nilV, rfl, ownT_nil _ _⟩
        · exact ((HLow.out.setCell (Nat.le_refl _) _).setCell (Nat.le_refl _) _).setCell (Nat.le_refl _) _
    | false =>
      by_cases hlt : E < s.size
      · have hlt' : (E : Int) < (s.size : Int) := by omega
        cases ho : oneL (s.data.toList.drop E) with
        | none =>
          have HQ : Hid (R = ([], 5, (E : Int))) := by
            have h1 := HI.out.is
            rw [hf] at h1
            exact h1.symm.trans (scanF_none HI.out.sk hlt ho)
          have HO := Hid.out (p := Hid _) ho
          clear hf ho
          go_wp2_with (first | (go_at_call 50; refine (rone_any s hs E hlt _).mono ?_; rintro e w1 ⟨hq, hb1⟩; unfold OneQ at hq; rw [HO.out] at hq; obtain rfl := hq; have hx := fun o => HB.out (w1.alloc o) (hb1.alloc hb1.size o); have p0 := fun o => box_cell (i := 0) (hx o) rfl; have p1 := fun o => box_cell (i := 1) (hx o) rfl; have p2 := fun o => box_cell (i := 2) (hx o) rfl; have pf := fun o i => box_free (i := i) (hx o); clear hx))
          refine bodyPost_ret (v := .tuple #[nilV, .agg #[.int .i64 5, .int .i64 0, .int .i64 (E : Int)]]) (by simp [results, Tryz.results25, go_sem, p0, p1, p2]) rfl ⟨?_, ?_⟩
          · rw [HQ.out]
            exact ⟨nilV, rfl, ownT_nil _ _⟩
          · have h2 := HLow.out.trans (hb1.mono HLow.out.size)
            exact (((h2.alloc h2.size _).setCell (Nat.le_refl _) _).setCell (Nat.le_refl _) _).setCell (Nat.le_refl _) _
        | some x =>
          obtain ⟨k, v, m⟩ := x
          obtain ⟨hm1, hm2⟩ := oneL_at hlt ho
          obtain ⟨x, hx⟩ : ∃ x : ByteArray, s.extract E (E + m) = x := ⟨_, rfl⟩
          have hxl : x.data.toList = (s.data.toList.drop E).take m := by rw [← hx, ext_list, Nat.add_sub_cancel_left]
          obtain ⟨⟨E', B'⟩, hE'⟩ : ∃ y, skAt s false (E + m) = y := ⟨_, rfl⟩
          have hE2 := skAt_le (s := s) (k := E + m) false hm2
          rw [hE'] at hE2
          simp only at hE2
          have HE' : Hid (skAt s false (E + m) = (E', B')) := hE'
          have hpE : p ≤ E := by have := skAt_le (s := s) (k := p) false HI.out.pos; rw [HI.out.sk] at this; exact this.1
          have HN : Hid (∀ wr2 lv2, OwnT wr2 S.heap.size lv2 (acc ++ [⟨k, v, (E : Int), x.data.toList⟩]) → Below S.heap.size S wr2 → ScI S wr2 s R lv2 E' B' (E + m) (f - 1) (acc ++ [⟨k, v, (E : Int), x.data.toList⟩])) := fun wr2 lv2 h1 h2 => by
            refine ⟨hE', by have := HI.out.fuel; omega, by have := HI.out.num; simp; omega, hm2, ?_, h1, h2⟩
            have h3 := HI.out.is
            rw [hf] at h3
            rw [← h3, scanF_more HI.out.sk hlt ho, hxl]
          have HO := Hid.out (p := Hid _) ho
          have HX := Hid.out (p := Hid _) hx
          have hm3 : (E + m : Nat) ≤ s.size := hm2
          clear hf ho hx hxl hE'
          go_wp2_with fail
          refine (rone_any s hs E hlt _).mono ?_
          rintro e w1 ⟨hq, hb1⟩
          unfold OneQ at hq
          rw [HO.out] at hq
          simp only [HX.out] at hq
          obtain rfl := hq
          have hb2 : Below wr.heap.size wr (w1.alloc (.cells #[.int .i64 k, .int .i64 v, .int .i64 (E : Int), .string x] 98)) := hb1.alloc hb1.size _
          obtain ⟨g, cap, w3, r1, r2, r3⟩ := app_tok HI.out.own hb2 HI.out.low.size ⟨k, v, (E : Int), x.data.toList⟩ (by have := HI.out.num; omega)
          have h3 := app_tok_below HI.out.own hb2 r3 HI.out.low.size (HI.out.low.trans (hb2.mono HI.out.low.size))
          have es : (w1.alloc (.cells #[.int .i64 k, .int .i64 v, .int .i64 (E : Int), .string x] 98)).heap.size = w1.heap.size + 1 := by simp
          rw [es] at r1
          replace r1 : (AppS #[68, 68] 68 #[u4, .slice (some ⟨w1.heap.size + 1, 0, none⟩) 1 1]).run Tryz.prog ((w1.alloc (.cells #[.int .i64 k, .int .i64 v, .int .i64 (E : Int), .string x] 98)).alloc (.cells #[.int .i64 k, .int .i64 v, .int .i64 (E : Int), .string x] 98)) = .ok (.slice (some ⟨g, 0, none⟩) (acc.length + 1) cap) w3 := r1
          have HI2 := Hid.out (p := Hid _) (HN.out w3 _ r2 h3)
          clear hb2 r2 r3 h3 es
          go_wp2_with (first | (go_at_call 49; refine (rskip_any s hs (E + m) hm3 E' B' HE' _).mono ?_; rintro e w' ⟨rfl, rfl⟩))
          go_roundw
          case rel => exact ⟨E', B', E + m, f - 1, _, rfl, rfl, HI2⟩
          case measure => simp [intOf]; omega
      · have HQ : Hid (R = (acc, 0, 0)) := by
          have h1 := HI.out.is
          rw [hf] at h1
          exact h1.symm.trans (scanF_end HI.out.sk (by omega))
        have hlt' : ¬ (E : Int) < (s.size : Int) := by omega
        clear hf
        have p0 : wr.cell? ⟨w.heap.size, 0, none⟩ = some (.int .i64 0) := box_cell hbx rfl
        have p1 : wr.cell? ⟨w.heap.size, 1, none⟩ = some (.int .i64 0) := box_cell hbx rfl
        have p2 : wr.cell? ⟨w.heap.size, 2, none⟩ = some (.int .i64 0) := box_cell hbx rfl
        have pf : ∀ i, wr.frozen? ⟨w.heap.size, i, none⟩ = false := fun i => box_free hbx
        go_wp2
        refine bodyPost_ret (v := .tuple #[u4, .agg #[.int .i64 0, .int .i64 0, .int .i64 0]]) (by simp [results, Tryz.results25, go_sem, p0, p1, p2]) rfl ⟨?_, ?_⟩
        · rw [HQ.out]
          refine ⟨u4, rfl, ?_⟩
          exact own_low (ownsRow_setCell_below (ownsRow_setCell_below (ownsRow_setCell_below HI.out.own hSlt _) hSlt _) hSlt _) (Nat.le_of_lt hSlt)
        · exact ((HLow.out.setCell (Nat.le_refl _) _).setCell (Nat.le_refl _) _).setCell (Nat.le_refl _) _

/-- The document's Scan, of every text. -/
theorem rscan_any (s : ByteArray) (w : World) :
    Calls Tryz.prog 25 #[.string s] w fun e w' => ScanQ w.heap.size (scanL s.data.toList) e w' ∧ Below w.heap.size w w' := by
  rcases Nat.lt_or_ge 4000 s.size with h | h
  · exact rscan_long s h w
  · exact rscan_short s h _ (rfl : _ = _) w
end

end Go.Proofs.YtggfbfjdiikaeaaGreatDoor
