/-
  The document's one token.
  The program's take: over all bytes that go on.
  The program's notes.
  The program's way to the next token.
-/
import Derived.Test.YtggfbfjdiikaeaaGreatDoorSynF6
import Derived.Test.YtggfbfjdiikaeaaGreatDoorBase
import Derived.Test.YtggfbfjdiikaeaaGreatDoorShelf
namespace Go.Proofs.YtggfbfjdiikaeaaGreatDoor
section
open Go.RowKit

/-- How many bytes from k on are such. -/
def twAt (p : UInt8 → Bool) (s : ByteArray) (k : Nat) : Nat := ((s.data.toList.drop k).takeWhile p).length
section
variable {p : UInt8 → Bool} {s : ByteArray} {k : Nat}
theorem twAt_end (h : s.size ≤ k) : twAt p s k = 0 := by rw [twAt, drop_over s k h]; rfl
theorem twAt_stop (h : k < s.size) (hp : p s[k] = false) : twAt p s k = 0 := by
  rw [twAt, drop_at s k h, List.takeWhile_cons_of_neg (by simp [hp])]; rfl
theorem twAt_more (h : k < s.size) (hp : p s[k] = true) : twAt p s k = twAt p s (k + 1) + 1 := by
  rw [twAt, drop_at s k h, List.takeWhile_cons_of_pos hp]; rfl
theorem twAt_le (h : k ≤ s.size) : k + twAt p s k ≤ s.size := by
  have h1 := takeWhile_le p (s.data.toList.drop k)
  have hl : s.data.toList.length = s.size := by simp
  rw [List.length_drop, hl] at h1
  unfold twAt
  omega
theorem twAt_text (h : k < s.size) : (s.extract k (k + (1 + twAt p s (k + 1)))).data.toList = s[k] :: (s.data.toList.drop (k + 1)).takeWhile p := by
  rw [ext_list, Nat.add_sub_cancel_left, drop_at s k h, Nat.add_comm 1, List.take_succ_cons, twAt, takeWhile_take]
end

/-- A token that is told, and none. -/
def OneQ (s : ByteArray) (i : Nat) (e : Ending) : Prop :=
  match oneL (s.data.toList.drop i) with
  | none => e = .returned (.tuple #[.agg #[.int .i64 0, .int .i64 0, .int .i64 0, .string ⟨#[]⟩], .int .i64 0, .int .i64 5])
  | some (k, v, m) => e = .returned (.tuple #[.agg #[.int .i64 k, .int .i64 v, .int .i64 i, .string (s.extract i (i + m))], .int .i64 m, .int .i64 0])

theorem oneL_name {s : ByteArray} {i N : Nat} (hi : i < s.size) (hl : isLet s[i] = true) (hN : 1 + twAt isNam s (i + 1) = N) :
    oneL (s.data.toList.drop i) = if 12 < N then none else some (kindW (s.extract i (i + N)).data.toList, 0, N) := by
  subst hN
  rw [twAt_text hi, drop_at s i hi, oneL, if_pos hl]
  rfl
theorem oneL_num {s : ByteArray} {i N : Nat} (hi : i < s.size) (hl : isLet s[i] = false) (hd : isDig s[i] = true) (hN : 1 + twAt isDig s (i + 1) = N) :
    oneL (s.data.toList.drop i) = if 9 < N ∨ (1 < N ∧ s[i].toNat = 48) then none else some (3, (mag (s.extract i (i + N)).data.toList : Int), N) := by
  subst hN
  rw [twAt_text hi, drop_at s i hi, oneL, if_neg (by simp [hl]), if_pos hd]
  rfl
theorem oneL_sign {s : ByteArray} {i : Nat} (hi : i < s.size) (hl : isLet s[i] = false) (hd : isDig s[i] = false) :
    oneL (s.data.toList.drop i) = if signN (s.data.toList.drop i) = 0 then none else some (4, 0, signN (s.data.toList.drop i)) := by
  rw [drop_at s i hi, oneL, if_neg (by simp [hl]), if_neg (by simp [hd])]

set_option maxRecDepth 100000 in
set_option maxHeartbeats 1600000 in
theorem rone_name (s : ByteArray) (hs : s.size ≤ 4000) (i : Nat) (hi : i < s.size) (hl : isLet s[i] = true) (N : Nat) (HN : Hid (1 + twAt isNam s (i + 1) = N)) (w : World) :
    Calls Tryz.prog 50 #[.string s, .int .i64 (i : Int)] w fun e w' => OneQ s i e ∧ Below w.heap.size w w' := by
  have hq : ∀ e, OneQ s i e = (match (if 12 < N then none else some (kindW (s.extract i (i + N)).data.toList, (0 : Int), N)) with
      | none => e = .returned (.tuple #[.agg #[.int .i64 0, .int .i64 0, .int .i64 0, .string ⟨#[]⟩], .int .i64 0, .int .i64 5])
      | some (k, v, m) => e = .returned (.tuple #[.agg #[.int .i64 k, .int .i64 v, .int .i64 i, .string (s.extract i (i + m))], .int .i64 m, .int .i64 0])) := fun e => by
    unfold OneQ; rw [oneL_name hi hl HN.out]
  have HQ := Hid.out (p := Hid _) hq
  clear hq
  go_enter Tryz.func50, Tryz.ntmps50
  go_wp2_with (first | (go_at_call 69; refine (rlet_any s[i] _).mono ?_; rintro e w' ⟨rfl, rfl⟩; rw [hl]))
  go_loop [7] (fun n => ∃ k : Nat, 1 ≤ k ∧ i + k ≤ s.size ∧ n = .int .i64 k ∧ Hid (k + twAt isNam s (i + k) = N)) (fun n => s.size - (intOf n).toNat)
  case atStart => exact ⟨1, Nat.le_refl _, hi, rfl, HN⟩
  case round =>
    obtain ⟨k, hk1, hk, rfl, HK⟩ := hrel
    by_cases hlt : i + k < s.size
    · have hlt' : (i : Int) + (k : Int) < (s.size : Int) := by omega
      cases ha : isLet s[i + k] with
      | true =>
        have HN' : Hid (k + 1 + twAt isNam s (i + (k + 1)) = N) := by
          have := HK.out
          rw [twAt_more hlt (by simp [isNam, ha])] at this
          show _ = _
          rw [← this, ← Nat.add_assoc]; omega
        cases hb : isDig s[i + k]
        all_goals
          go_wp2_with (first | (go_at_call 69; refine (rlet_any s[i + k] _).mono ?_; rintro e w' ⟨rfl, rfl⟩; rw [ha]) | (go_at_call 70; refine (rdig_any s[i + k] _).mono ?_; rintro e w' ⟨rfl, rfl⟩; rw [hb]))
          go_round
          case rel => exact ⟨k + 1, by omega, by omega, by go_num, HN'⟩
          case measure => simp [intOf]; omega
      | false =>
        cases hb : isDig s[i + k] with
        | true =>
          have HN' : Hid (k + 1 + twAt isNam s (i + (k + 1)) = N) := by
            have := HK.out
            rw [twAt_more hlt (by simp [isNam, hb])] at this
            show _ = _
            rw [← this, ← Nat.add_assoc]; omega
          go_wp2_with (first | (go_at_call 69; refine (rlet_any s[i + k] _).mono ?_; rintro e w' ⟨rfl, rfl⟩; rw [ha]) | (go_at_call 70; refine (rdig_any s[i + k] _).mono ?_; rintro e w' ⟨rfl, rfl⟩; rw [hb]))
          go_round
          case rel => exact ⟨k + 1, by omega, by omega, by go_num, HN'⟩
          case measure => simp [intOf]; omega
        | false =>
          have hkN : k = N := by
            have := HK.out
            rw [twAt_stop hlt (by simp [isNam, ha, hb])] at this
            omega
          subst hkN
          have hle : (i : Int) + (k : Int) ≤ (s.size : Int) := by omega
          clear HK HN
          cases hw : isWord (s.extract i (i + k)).data.toList with
          | true =>
            have h12 : ¬ 12 < k := by
              have := word_len hw
              rw [ext_list, Nat.add_sub_cancel_left, List.length_take, List.length_drop] at this
              have hl : s.data.toList.length = s.size := by simp
              omega
            have HQ' : Hid (∀ e, OneQ s i e = (e = .returned (.tuple #[.agg #[.int .i64 2, .int .i64 0, .int .i64 i, .string (s.extract i (i + k))], .int .i64 k, .int .i64 0]))) := fun e => by rw [HQ.out e, if_neg h12, kindW, hw]; rfl
            clear HQ
            go_wp2_with (first | (go_at_call 69; refine (rlet_any s[i + k] _).mono ?_; rintro e w' ⟨rfl, rfl⟩; rw [ha]) | (go_at_call 70; refine (rdig_any s[i + k] _).mono ?_; rintro e w' ⟨rfl, rfl⟩; rw [hb]) | (go_at_call 71; refine (rword_any _ _).mono ?_; rintro e w' ⟨rfl, rfl⟩; rw [hw]))
            exact bodyPost_ret (v := (.tuple #[.agg #[.int .i64 2, .int .i64 0, .int .i64 i, .string (s.extract i (i + k))], .int .i64 k, .int .i64 0])) (by simp [results, Tryz.results50, go_sem]) rfl ⟨by rw [HQ'.out], (Below.refl _ _).alloc (Nat.le_refl _) _⟩
          | false =>
            by_cases h12 : 12 < k
            · have HQ' : Hid (∀ e, OneQ s i e = (e = .returned (.tuple #[.agg #[.int .i64 0, .int .i64 0, .int .i64 0, .string ⟨#[]⟩], .int .i64 0, .int .i64 5]))) := fun e => by rw [HQ.out e, if_pos h12]
              have h12' : 12 < (k : Int) := by omega
              clear HQ
              go_wp2_with (first | (go_at_call 69; refine (rlet_any s[i + k] _).mono ?_; rintro e w' ⟨rfl, rfl⟩; rw [ha]) | (go_at_call 70; refine (rdig_any s[i + k] _).mono ?_; rintro e w' ⟨rfl, rfl⟩; rw [hb]) | (go_at_call 71; refine (rword_any _ _).mono ?_; rintro e w' ⟨rfl, rfl⟩; rw [hw]))
              exact bodyPost_ret (v := (.tuple #[.agg #[.int .i64 0, .int .i64 0, .int .i64 0, .string ⟨#[]⟩], .int .i64 0, .int .i64 5])) (by simp [results, Tryz.results50, go_sem]) rfl ⟨by rw [HQ'.out], (Below.refl _ _).alloc (Nat.le_refl _) _⟩
            · have HQ' : Hid (∀ e, OneQ s i e = (e = .returned (.tuple #[.agg #[.int .i64 1, .int .i64 0, .int .i64 i, .string (s.extract i (i + k))], .int .i64 k, .int .i64 0]))) := fun e => by rw [HQ.out e, if_neg h12, kindW, hw]; rfl
              have h12' : ¬ 12 < (k : Int) := by omega
              clear HQ
              go_wp2_with (first | (go_at_call 69; refine (rlet_any s[i + k] _).mono ?_; rintro e w' ⟨rfl, rfl⟩; rw [ha]) | (go_at_call 70; refine (rdig_any s[i + k] _).mono ?_; rintro e w' ⟨rfl, rfl⟩; rw [hb]) | (go_at_call 71; refine (rword_any _ _).mono ?_; rintro e w' ⟨rfl, rfl⟩; rw [hw]))
              exact bodyPost_ret (v := (.tuple #[.agg #[.int .i64 1, .int .i64 0, .int .i64 i, .string (s.extract i (i + k))], .int .i64 k, .int .i64 0])) (by simp [results, Tryz.results50, go_sem]) rfl ⟨by rw [HQ'.out], (Below.refl _ _).alloc (Nat.le_refl _) _⟩
    · have hlt' : ¬ (i : Int) + (k : Int) < (s.size : Int) := by omega
      have hkN : k = N := by
        have := HK.out
        rw [twAt_end (by omega)] at this
        omega
      subst hkN
      have hle : (i : Int) + (k : Int) ≤ (s.size : Int) := by omega
      clear HK HN
      cases hw : isWord (s.extract i (i + k)).data.toList with
      | true =>
        have h12 : ¬ 12 < k := by
          have := word_len hw
          rw [ext_list, Nat.add_sub_cancel_left, List.length_take, List.length_drop] at this
          have hl : s.data.toList.length = s.size := by simp
          omega
        have HQ' : Hid (∀ e, OneQ s i e = (e = .returned (.tuple #[.agg #[.int .i64 2, .int .i64 0, .int .i64 i, .string (s.extract i (i + k))], .int .i64 k, .int .i64 0]))) := fun e => by rw [HQ.out e, if_neg h12, kindW, hw]; rfl
        clear HQ
        go_wp2_with (first | (go_at_call 71; refine (rword_any _ _).mono ?_; rintro e w' ⟨rfl, rfl⟩; rw [hw]))
        exact bodyPost_ret (v := (.tuple #[.agg #[.int .i64 2, .int .i64 0, .int .i64 i, .string (s.extract i (i + k))], .int .i64 k, .int .i64 0])) (by simp [results, Tryz.results50, go_sem]) rfl ⟨by rw [HQ'.out], (Below.refl _ _).alloc (Nat.le_refl _) _⟩
      | false =>
        by_cases h12 : 12 < k
        · have HQ' : Hid (∀ e, OneQ s i e = (e = .returned (.tuple #[.agg #[.int .i64 0, .int .i64 0, .int .i64 0, .string ⟨#[]⟩], .int .i64 0, .int .i64 5]))) := fun e => by rw [HQ.out e, if_pos h12]
          have h12' : 12 < (k : Int) := by omega
          clear HQ
          go_wp2_with (first | (go_at_call 71; refine (rword_any _ _).mono ?_; rintro e w' ⟨rfl, rfl⟩; rw [hw]))
          exact bodyPost_ret (v := (.tuple #[.agg #[.int .i64 0, .int .i64 0, .int .i64 0, .string ⟨#[]⟩], .int .i64 0, .int .i64 5])) (by simp [results, Tryz.results50, go_sem]) rfl ⟨by rw [HQ'.out], (Below.refl _ _).alloc (Nat.le_refl _) _⟩
        · have HQ' : Hid (∀ e, OneQ s i e = (e = .returned (.tuple #[.agg #[.int .i64 1, .int .i64 0, .int .i64 i, .string (s.extract i (i + k))], .int .i64 k, .int .i64 0]))) := fun e => by rw [HQ.out e, if_neg h12, kindW, hw]; rfl
          have h12' : ¬ 12 < (k : Int) := by omega
          clear HQ
          go_wp2_with (first | (go_at_call 71; refine (rword_any _ _).mono ?_; rintro e w' ⟨rfl, rfl⟩; rw [hw]))
          exact bodyPost_ret (v := (.tuple #[.agg #[.int .i64 1, .int .i64 0, .int .i64 i, .string (s.extract i (i + k))], .int .i64 k, .int .i64 0])) (by simp [results, Tryz.results50, go_sem]) rfl ⟨by rw [HQ'.out], (Below.refl _ _).alloc (Nat.le_refl _) _⟩
end

section
open Go.RowKit

def atOf (w : World) (sb : Nat) : Nat := match w.cell? ⟨sb, 1, none⟩ with
  | some (.int _ i) => i.toNat
  | _ => 0
theorem Sc.at {w : World} {sb : Nat} {s : ByteArray} {k : Nat} (h : Sc w sb s k) : atOf w sb = k := by
  unfold atOf; rw [h.c1]; simp

set_option maxRecDepth 100000 in
set_option maxHeartbeats 1600000 in
theorem take_dig (sb : Nat) (s : ByteArray) (hs : s.size ≤ 4000) (k : Nat) (hk : k ≤ s.size) (N : Nat) (HN : Hid (k + twAt isDig s k = N)) (w : World) (h : Sc w sb s k) :
    Calls Tryz.prog 130 #[.pointer (some ⟨sb, 0, none⟩), .func (.func 107) #[] #[]] w fun e w' => e = .returned (.string (s.extract k N)) ∧ Sc w' sb s N ∧ w.grownBy w' (some sb) := by
  have HS := Hid.out (p := Hid _) h
  have h0 := h.c0
  have h1 := h.c1
  clear h
  go_enter Tryz.func130, Tryz.ntmps130
  go_wp2
  clear h0 h1
  obtain ⟨W, rfl⟩ : ∃ V, V = w := ⟨_, rfl⟩
  go_loopw [10] (fun _ wr => ∃ j : Nat, k ≤ j ∧ j ≤ s.size ∧ Hid (j + twAt isDig s j = N) ∧ Hid (Sc wr sb s j ∧ W.grownBy wr (some sb))) (fun _ wr => s.size - atOf wr sb)
  case atStart => exact ⟨k, Nat.le_refl _, hk, HN, ⟨HS.out, World.grownBy.refl _ _⟩⟩
  case round =>
    obtain ⟨j, hj1, hj2, HJ, HW⟩ := hrel
    have h0 := HW.out.1.c0
    have h1 := HW.out.1.c1
    have hf := HW.out.1.fr
    by_cases hlt : j < s.size
    · have hlt' : (j : Int) < (s.size : Int) := by omega
      cases hd : isDig s[j] with
      | true =>
        have HJ2 : Hid (j + 1 + twAt isDig s (j + 1) = N) := by
          have := HJ.out
          rw [twAt_more hlt hd] at this
          show _ = _
          omega
        have HW2 : Hid (Sc (wr.setCell ⟨sb, 1, none⟩ (.int .i64 ((j : Int) + 1))).drew sb s (j + 1) ∧ W.grownBy (wr.setCell ⟨sb, 1, none⟩ (.int .i64 ((j : Int) + 1))).drew (some sb)) :=
          ⟨(HW.out.1.set (j + 1)).below (Below.refl _ _).drew, grown_then HW.out.2 (grown_then (grown_set _ _ _ _) (grown_of_below (Below.refl _ _).drew _))⟩
        have ha : atOf wr sb = j := HW.out.1.at
        go_wp2_with fail
        refine region_tail 21 (by kernel_rfl) (by kernel_rfl) ?_
        simp only [List.take_succ_cons, List.take_zero, List.drop_succ_cons, List.drop_zero]
        repeat still_step
        refine wpStill_nil ?_
        go_wp2_with fail
        refine Calls.mono (pdig_any s[j] _) ?_
        rintro e w' ⟨rfl, rfl⟩
        rw [hd]
        go_wp2_with fail
        go_roundw
        case rel => exact ⟨j + 1, by omega, by omega, HJ2, HW2⟩
        case measure => rw [HW2.out.1.at, ha]; omega
      | false =>
        have HJN : Hid (j = N) := by
          have := HJ.out
          rw [twAt_stop hlt hd] at this
          show _ = _
          omega
        go_wp2_with fail
        refine region_tail 21 (by kernel_rfl) (by kernel_rfl) ?_
        simp only [List.take_succ_cons, List.take_zero, List.drop_succ_cons, List.drop_zero]
        repeat still_step
        refine wpStill_nil ?_
        go_wp2_with fail
        refine Calls.mono (pdig_any s[j] _) ?_
        rintro e w' ⟨rfl, rfl⟩
        rw [hd]
        go_wp2_with fail
        have hle1 : (k : Int) ≤ (j : Int) := by omega
        have hle2 : (j : Int) ≤ (s.size : Int) := by omega
        go_quiet (fail)
        go_wp2
        go_ret
        obtain rfl := HJN.out
        exact ⟨rfl, HW.out.1.below (below_drewN (Below.refl _ _).drew), grown_then HW.out.2 (grown_of_below (below_drewN (Below.refl _ _).drew) _)⟩
    · have hlt' : decide ((j : Int) < (s.size : Int)) = false := by simpa using hlt
      have HJN : Hid (j = N) := by
        have := HJ.out
        rw [twAt_end (by omega)] at this
        show _ = _
        omega
      go_wp2_with fail
      go_quiet (fail)
      go_wp2_with fail
      have hle1 : (k : Int) ≤ (j : Int) := by omega
      have hle2 : (j : Int) ≤ (s.size : Int) := by omega
      go_quiet (fail)
      go_wp2
      go_ret
      obtain rfl := HJN.out
      exact ⟨rfl, HW.out.1.below (below_drewN (below_drewN (Below.refl _ _))), grown_then HW.out.2 (grown_of_below (below_drewN (below_drewN (Below.refl _ _))) _)⟩

theorem pnam_any (c : UInt8) (w : World) :
    Calls Tryz.prog 132 #[.int .u8 (c.toNat : Int)] w fun e w' => e = .returned (.bool (isNam c)) ∧ w' = w := by
  cases hl : isLet c
  all_goals cases hd : isDig c
  all_goals
    go_enter Tryz.func132, Tryz.ntmps132
    go_wp2_with (first | (go_at_call 105; refine (plet_any c _).mono ?_; rintro e w' ⟨rfl, rfl⟩; rw [hl]) | (go_at_call 107; refine (pdig_any c _).mono ?_; rintro e w' ⟨rfl, rfl⟩; rw [hd]))
    go_ret
    exact ⟨ret_bool (by simp [isNam, hl, hd]), rfl⟩

set_option maxRecDepth 100000 in
set_option maxHeartbeats 1600000 in
theorem take_nam (sb : Nat) (s : ByteArray) (hs : s.size ≤ 4000) (k : Nat) (hk : k ≤ s.size) (N : Nat) (HN : Hid (k + twAt isNam s k = N)) (w : World) (h : Sc w sb s k) :
    Calls Tryz.prog 130 #[.pointer (some ⟨sb, 0, none⟩), .func (.func 132) #[] #[]] w fun e w' => e = .returned (.string (s.extract k N)) ∧ Sc w' sb s N ∧ w.grownBy w' (some sb) := by
  have HS := Hid.out (p := Hid _) h
  have h0 := h.c0
  have h1 := h.c1
  clear h
  go_enter Tryz.func130, Tryz.ntmps130
  go_wp2
  clear h0 h1
  obtain ⟨W, rfl⟩ : ∃ V, V = w := ⟨_, rfl⟩
  go_loopw [10] (fun _ wr => ∃ j : Nat, k ≤ j ∧ j ≤ s.size ∧ Hid (j + twAt isNam s j = N) ∧ Hid (Sc wr sb s j ∧ W.grownBy wr (some sb))) (fun _ wr => s.size - atOf wr sb)
  case atStart => exact ⟨k, Nat.le_refl _, hk, HN, ⟨HS.out, World.grownBy.refl _ _⟩⟩
  case round =>
    obtain ⟨j, hj1, hj2, HJ, HW⟩ := hrel
    have h0 := HW.out.1.c0
    have h1 := HW.out.1.c1
    have hf := HW.out.1.fr
    by_cases hlt : j < s.size
    · have hlt' : (j : Int) < (s.size : Int) := by omega
      cases hd : isNam s[j] with
      | true =>
        have HJ2 : Hid (j + 1 + twAt isNam s (j + 1) = N) := by
          have := HJ.out
          rw [twAt_more hlt hd] at this
          show _ = _
          omega
        have HW2 : Hid (Sc (wr.setCell ⟨sb, 1, none⟩ (.int .i64 ((j : Int) + 1))).drew sb s (j + 1) ∧ W.grownBy (wr.setCell ⟨sb, 1, none⟩ (.int .i64 ((j : Int) + 1))).drew (some sb)) :=
          ⟨(HW.out.1.set (j + 1)).below (Below.refl _ _).drew, grown_then HW.out.2 (grown_then (grown_set _ _ _ _) (grown_of_below (Below.refl _ _).drew _))⟩
        have ha : atOf wr sb = j := HW.out.1.at
        go_wp2_with fail
        refine region_tail 21 (by kernel_rfl) (by kernel_rfl) ?_
        simp only [List.take_succ_cons, List.take_zero, List.drop_succ_cons, List.drop_zero]
        repeat still_step
        refine wpStill_nil ?_
        go_wp2_with fail
        refine Calls.mono (pnam_any s[j] _) ?_
        rintro e w' ⟨rfl, rfl⟩
        rw [hd]
        go_wp2_with fail
        go_roundw
        case rel => exact ⟨j + 1, by omega, by omega, HJ2, HW2⟩
        case measure => rw [HW2.out.1.at, ha]; omega
      | false =>
        have HJN : Hid (j = N) := by
          have := HJ.out
          rw [twAt_stop hlt hd] at this
          show _ = _
          omega
        go_wp2_with fail
        refine region_tail 21 (by kernel_rfl) (by kernel_rfl) ?_
        simp only [List.take_succ_cons, List.take_zero, List.drop_succ_cons, List.drop_zero]
        repeat still_step
        refine wpStill_nil ?_
        go_wp2_with fail
        refine Calls.mono (pnam_any s[j] _) ?_
        rintro e w' ⟨rfl, rfl⟩
        rw [hd]
        go_wp2_with fail
        have hle1 : (k : Int) ≤ (j : Int) := by omega
        have hle2 : (j : Int) ≤ (s.size : Int) := by omega
        go_quiet (fail)
        go_wp2
        go_ret
        obtain rfl := HJN.out
        exact ⟨rfl, HW.out.1.below (below_drewN (Below.refl _ _).drew), grown_then HW.out.2 (grown_of_below (below_drewN (Below.refl _ _).drew) _)⟩
    · have hlt' : decide ((j : Int) < (s.size : Int)) = false := by simpa using hlt
      have HJN : Hid (j = N) := by
        have := HJ.out
        rw [twAt_end (by omega)] at this
        show _ = _
        omega
      go_wp2_with fail
      go_quiet (fail)
      go_wp2_with fail
      have hle1 : (k : Int) ≤ (j : Int) := by omega
      have hle2 : (j : Int) ≤ (s.size : Int) := by omega
      go_quiet (fail)
      go_wp2
      go_ret
      obtain rfl := HJN.out
      exact ⟨rfl, HW.out.1.below (below_drewN (below_drewN (Below.refl _ _))), grown_then HW.out.2 (grown_of_below (below_drewN (below_drewN (Below.refl _ _))) _)⟩
end

section
open Go.RowKit

set_option maxRecDepth 100000 in
set_option maxHeartbeats 800000 in
theorem note1_yes (nb sb : Nat) (s : ByteArray) (k : Nat) (hk : k < s.size) (hc : canBe s[k] = true) (w : World) (h : Sc w sb s k) (hn : w.cell? ⟨nb, 0, none⟩ = some (.pointer (some ⟨sb, 0, none⟩))) :
    Calls Tryz.prog 131 #[.int .u8 (s[k].toNat : Int), .pointer (some ⟨nb, 0, none⟩)] w fun e w' => e = .returned (.bool ((s[k].toNat : Int) != 10)) ∧ ∃ m, w' = w.drewN m := by
  go_enter Tryz.func131, Tryz.ntmps131
  go_wp2_with (first | (go_at_call 104; refine (ask_yes sb s k hk hc _ h).mono ?_; rintro e w' ⟨rfl, m, rfl⟩))
  go_ret
  exact ⟨rfl, _, rfl⟩
set_option maxRecDepth 100000 in
set_option maxHeartbeats 800000 in
theorem note1_no (nb sb : Nat) (s : ByteArray) (k : Nat) (hk : k < s.size) (hc : canBe s[k] = false) (w : World) (h : Sc w sb s k) (hn : w.cell? ⟨nb, 0, none⟩ = some (.pointer (some ⟨sb, 0, none⟩))) :
    Calls Tryz.prog 131 #[.int .u8 (s[k].toNat : Int), .pointer (some ⟨nb, 0, none⟩)] w fun e w' => e = .panicked (badB k) ∧ Below w.heap.size w w' := by
  go_enter Tryz.func131, Tryz.ntmps131
  go_wp2_with (first | (go_at_call 104; refine (ask_no sb s k hk hc _ h).mono ?_; rintro e w' ⟨rfl, hb⟩))
  exact ⟨rfl, rfl, hb⟩


theorem skAt_over {s : ByteArray} {j : Nat} (h : j < s.size) (hc : canBe s[j] = true) (hn : ((s[j].toNat : Int) != 10) = true) : skAt s true j = skAt s true (j + 1) := by
  rw [skAt_note h hc]
  congr 1
  simp at hn ⊢
  omega
theorem skAt_line {s : ByteArray} {j : Nat} (h : j < s.size) (hc : canBe s[j] = true) (hn : ((s[j].toNat : Int) != 10) = false) : skAt s true j = skAt s false j := by
  have h10 : s[j].toNat = 10 := by simp at hn; omega
  rw [skAt_note h hc, skAt_blk h hc (by simp [isBlk, h10])]
  congr 1
  simp [h10]

/-- What becomes of a note. -/
def NoteQ (W : World) (sb : Nat) (s : ByteArray) (k E : Nat) (B : Bool) (e : Ending) (w' : World) : Prop :=
  W.grownBy w' (some sb) ∧ ((∃ v, e = .returned v ∧ ∃ j, k ≤ j ∧ j ≤ s.size ∧ (∀ h : k < s.size, ((s[k].toNat : Int) != 10) = true → k < j) ∧ Sc w' sb s j ∧ skAt s false j = (E, B)) ∨ (e = .panicked (badB E) ∧ B = true))

set_option maxRecDepth 100000 in
set_option maxHeartbeats 1600000 in
theorem take_note (nb sb : Nat) (s : ByteArray) (hs : s.size ≤ 4000) (k : Nat) (hk : k ≤ s.size) (E : Nat) (B : Bool) (HE : Hid (skAt s true k = (E, B))) (w : World) (h : Sc w sb s k) (hn : w.cell? ⟨nb, 0, none⟩ = some (.pointer (some ⟨sb, 0, none⟩))) (hne : nb ≠ sb) :
    Calls Tryz.prog 130 #[.pointer (some ⟨sb, 0, none⟩), .func (.func 131) #[] #[.pointer (some ⟨nb, 0, none⟩)]] w fun e w' => NoteQ w sb s k E B e w' := by
  have HS := Hid.out (p := Hid _) h
  have HNB : Hid (∀ V, w.grownBy V (some sb) → V.cell? ⟨nb, 0, none⟩ = some (.pointer (some ⟨sb, 0, none⟩))) := fun V hV => hV.cell hn (by simp; exact hne)
  have h0 := h.c0
  have h1 := h.c1
  clear h hn
  go_enter Tryz.func130, Tryz.ntmps130
  go_wp2
  clear h0 h1
  obtain ⟨W, rfl⟩ : ∃ V, V = w := ⟨_, rfl⟩
  go_loopw [10] (fun _ wr => ∃ j : Nat, k ≤ j ∧ j ≤ s.size ∧ Hid (skAt s true j = (E, B)) ∧ Hid (Sc wr sb s j ∧ W.grownBy wr (some sb))) (fun _ wr => s.size - atOf wr sb)
  case atStart => exact ⟨k, Nat.le_refl _, hk, HE, ⟨HS.out, World.grownBy.refl _ _⟩⟩
  case round =>
    obtain ⟨j, hj1, hj2, HJ, HW⟩ := hrel
    have h0 := HW.out.1.c0
    have h1 := HW.out.1.c1
    have hf := HW.out.1.fr
    by_cases hlt : j < s.size
    · have hlt' : (j : Int) < (s.size : Int) := by omega
      cases hc : canBe s[j] with
      | false =>
        have HEB : Hid (j = E ∧ B = true) := by
          have h2 := HJ.out
          rw [skAt_bad true hlt hc] at h2
          simp only [Prod.mk.injEq] at h2
          exact ⟨h2.1, h2.2.symm⟩
        go_wp2_with fail
        refine region_tail 21 (by kernel_rfl) (by kernel_rfl) ?_
        simp only [List.take_succ_cons, List.take_zero, List.drop_succ_cons, List.drop_zero]
        repeat still_step
        refine wpStill_nil ?_
        go_wp2_with fail
        refine Calls.mono (note1_no nb sb s j hlt hc _ (HW.out.1.below (Below.refl _ _).drew) (HNB.out _ (grown_then HW.out.2 (grown_of_below (Below.refl _ _).drew _)))) ?_
        rintro e w' ⟨rfl, hb⟩
        refine ⟨rfl, grown_then HW.out.2 (grown_then (grown_of_below (Below.refl _ _).drew _) (grown_of_below hb _)), Or.inr ⟨?_, HEB.out.2⟩⟩
        rw [HEB.out.1]
      | true =>
        cases hd : ((s[j].toNat : Int) != 10) with
        | true =>
          have HJ2 : Hid (skAt s true (j + 1) = (E, B)) := (skAt_over hlt hc hd).symm.trans HJ.out
          have HW2 : Hid (∀ m, Sc ((wr.drewN m).setCell ⟨sb, 1, none⟩ (.int .i64 ((j : Int) + 1))) sb s (j + 1) ∧ W.grownBy ((wr.drewN m).setCell ⟨sb, 1, none⟩ (.int .i64 ((j : Int) + 1))) (some sb)) := fun m =>
            ⟨(HW.out.1.below (below_drewN (Below.refl _ _))).set (j + 1), grown_then HW.out.2 (grown_then (grown_of_below (below_drewN (Below.refl _ _)) _) (grown_set _ _ _ _))⟩
          have ha : atOf wr sb = j := HW.out.1.at
          go_wp2_with fail
          refine region_tail 21 (by kernel_rfl) (by kernel_rfl) ?_
          simp only [List.take_succ_cons, List.take_zero, List.drop_succ_cons, List.drop_zero]
          repeat still_step
          refine wpStill_nil ?_
          go_wp2_with fail
          refine Calls.mono (note1_yes nb sb s j hlt hc _ (HW.out.1.below (Below.refl _ _).drew) (HNB.out _ (grown_then HW.out.2 (grown_of_below (Below.refl _ _).drew _)))) ?_
          rintro e w' ⟨rfl, m, rfl⟩
          rw [hd]
          go_wp2_with fail
          go_roundw
          case rel => exact ⟨j + 1, by omega, by omega, HJ2, HW2.out _⟩
          case measure => rw [(HW2.out _).1.at, ha]; omega
        | false =>
          have HJ2 : Hid (skAt s false j = (E, B)) := (skAt_line hlt hc hd).symm.trans HJ.out
          go_wp2_with fail
          refine region_tail 21 (by kernel_rfl) (by kernel_rfl) ?_
          simp only [List.take_succ_cons, List.take_zero, List.drop_succ_cons, List.drop_zero]
          repeat still_step
          refine wpStill_nil ?_
          go_wp2_with fail
          refine Calls.mono (note1_yes nb sb s j hlt hc _ (HW.out.1.below (Below.refl _ _).drew) (HNB.out _ (grown_then HW.out.2 (grown_of_below (Below.refl _ _).drew _)))) ?_
          rintro e w' ⟨rfl, m, rfl⟩
          rw [hd]
          go_wp2_with fail
          have hle1 : (k : Int) ≤ (j : Int) := by omega
          have hle2 : (j : Int) ≤ (s.size : Int) := by omega
          go_quiet (fail)
          go_wp2
          go_ret
          refine ⟨grown_then HW.out.2 (grown_of_below (below_drewN (below_drewN (Below.refl _ _))) _), Or.inl ⟨_, rfl, j, hj1, hj2, fun h hne => ?_, HW.out.1.below (below_drewN (below_drewN (Below.refl _ _))), HJ2.out⟩⟩
          rcases Nat.lt_or_eq_of_le hj1 with h2 | rfl
          · exact h2
          · rw [hd] at hne; cases hne
    · have hlt' : decide ((j : Int) < (s.size : Int)) = false := by simpa using hlt
      have HJ2 : Hid (skAt s false j = (E, B)) := by
        have h2 := HJ.out
        rw [skAt_end true (by omega)] at h2
        show _ = _
        rw [skAt_end false (by omega), h2]
      go_wp2_with fail
      go_quiet (fail)
      go_wp2_with fail
      have hle1 : (k : Int) ≤ (j : Int) := by omega
      have hle2 : (j : Int) ≤ (s.size : Int) := by omega
      go_quiet (fail)
      go_wp2
      go_ret
      exact ⟨grown_then HW.out.2 (grown_of_below (below_drewN (below_drewN (Below.refl _ _))) _), Or.inl ⟨_, rfl, j, hj1, hj2, fun h _ => by omega, HW.out.1.below (below_drewN (below_drewN (Below.refl _ _))), HJ2.out⟩⟩

set_option maxRecDepth 100000 in
set_option maxHeartbeats 800000 in
theorem note_any (sb : Nat) (s : ByteArray) (hs : s.size ≤ 4000) (k : Nat) (hk : k ≤ s.size) (E : Nat) (B : Bool) (HE : Hid (skAt s true k = (E, B))) (w : World) (h : Sc w sb s k) :
    Calls Tryz.prog 103 #[.pointer (some ⟨sb, 0, none⟩)] w fun e w' => NoteQ w sb s k E B e w' := by
  have hmf : ∀ (fn : Fn) (first cap : Array Value) (w : World), (Instr.makeFunc fn first cap).run Tryz.prog w = .ok (.func fn first cap) w := fun _ _ _ _ => rfl
  go_enter Tryz.func103, Tryz.ntmps103
  go_wp2_with fail
  have hsb := h.lt
  refine Calls.mono (take_note w.heap.size sb s hs k hk E B HE _ (h.below ((Below.refl _ _).alloc (Nat.le_refl _) _)) (box_cell (heap_alloc_new _ _) rfl) (by omega)) ?_
  rintro e w1 ⟨hg, h2⟩
  have hg2 : w.grownBy w1 (some sb) := grown_then (grown_of_below ((Below.refl _ _).alloc (Nat.le_refl _) _) _) hg
  rcases h2 with ⟨v, rfl, hj⟩ | ⟨rfl, hB⟩
  · go_wp2
    go_end0
    exact ⟨hg2, Or.inl ⟨_, rfl, hj⟩⟩
  · exact ⟨rfl, hg2, Or.inr ⟨rfl, hB⟩⟩
end

section
open Go.RowKit

theorem rest_list (s : ByteArray) (j : Nat) : (s.extract j s.size).data.toList = s.data.toList.drop j := by
  have hl : s.data.toList.length = s.size := by simp
  rw [ext_list, List.take_of_length_le (by rw [List.length_drop, hl]; exact Nat.le_refl _)]
theorem pre_two (s : ByteArray) (j : Nat) (h : j < s.size) : Lib.hasPrefix (s.extract j s.size).data.toList [47, 47] = true ↔ (s[j].toNat = 47 ∧ ∃ h : j + 1 < s.size, s[j + 1].toNat = 47) := by
  have e : ∀ c : UInt8, c = 47 ↔ c.toNat = 47 := fun c => ⟨fun h => by rw [h]; rfl, fun h => UInt8.toNat_inj.1 (by rw [h]; rfl)⟩
  rw [rest_list, drop_at s j h]
  rcases Nat.lt_or_ge (j + 1) s.size with h1 | h1
  · rw [drop_at s (j + 1) h1]
    simp only [Lib.hasPrefix, List.isPrefixOf, Bool.and_true, Bool.and_eq_true, beq_iff_eq, eq_comm (a := (47 : UInt8)), e]
    exact ⟨fun ⟨a, b⟩ => ⟨a, h1, b⟩, fun ⟨a, _, b⟩ => ⟨a, b⟩⟩
  · rw [drop_over s (j + 1) h1]
    simp only [Lib.hasPrefix, List.isPrefixOf, Bool.and_false, Bool.false_eq_true, false_iff]
    rintro ⟨_, h2, _⟩
    omega

/-- What stands at the place that the way leads to. -/
def Stand (s : ByteArray) (E : Nat) (B : Bool) : Prop := if B = true then ∃ h : E < s.size, canBe s[E] = false else ∀ h : E < s.size, canBe s[E] = true

def ToQ (W : World) (sb : Nat) (s : ByteArray) (E : Nat) (B : Bool) (e : Ending) (w' : World) : Prop :=
  W.grownBy w' (some sb) ∧ ((e = .returned (.bool (decide (E < s.size))) ∧ Sc w' sb s E ∧ Stand s E B) ∨ (e = .panicked (badB E) ∧ B = true))

set_option maxRecDepth 100000 in
set_option maxHeartbeats 1600000 in
theorem toTok_any (sb : Nat) (s : ByteArray) (hs : s.size ≤ 4000) (k : Nat) (hk : k ≤ s.size) (E : Nat) (B : Bool) (HE : Hid (skAt s false k = (E, B))) (w : World) (h : Sc w sb s k) :
    Calls Tryz.prog 79 #[.pointer (some ⟨sb, 0, none⟩)] w fun e w' => ToQ w sb s E B e w' := by
  have HS := Hid.out (p := Hid _) h
  clear h
  go_enter Tryz.func79, Tryz.ntmps79
  go_wp2
  obtain ⟨W, rfl⟩ : ∃ V, V = w := ⟨_, rfl⟩
  go_loopw [3] (fun _ wr => ∃ j : Nat, k ≤ j ∧ j ≤ s.size ∧ Hid (skAt s false j = (E, B)) ∧ Hid (Sc wr sb s j ∧ W.grownBy wr (some sb))) (fun _ wr => s.size - atOf wr sb)
  case atStart => exact ⟨k, Nat.le_refl _, hk, HE, ⟨HS.out, World.grownBy.refl _ _⟩⟩
  case round =>
    obtain ⟨j, hj1, hj2, HJ, HW⟩ := hrel
    have h0 := HW.out.1.c0
    have h1 := HW.out.1.c1
    have hf := HW.out.1.fr
    have HB : Hid (∀ V, Below wr.heap.size wr V → Sc V sb s j ∧ W.grownBy V (some sb)) := fun V hV => ⟨HW.out.1.below hV, grown_then HW.out.2 (grown_of_below hV _)⟩
    have ha : atOf wr sb = j := HW.out.1.at
    by_cases hlt : j < s.size
    · have hlt' : (j : Int) < (s.size : Int) := by omega
      cases hb : isBlk s[j] with
      | true =>
        have hc : canBe s[j] = true := by simp [canBe, hb]
        have HJ2 : Hid (skAt s false (j + 1) = (E, B)) := (skAt_blk hlt hc hb).symm.trans HJ.out
        have HW2 : Hid (∀ m, Sc ((wr.drewN m).setCell ⟨sb, 1, none⟩ (.int .i64 ((j : Int) + 1))) sb s (j + 1) ∧ W.grownBy ((wr.drewN m).setCell ⟨sb, 1, none⟩ (.int .i64 ((j : Int) + 1))) (some sb)) := fun m => by
          have h2 := HB.out (wr.drewN m) (below_drewN (Below.refl _ _))
          exact ⟨h2.1.set (j + 1), grown_then h2.2 (grown_set _ _ _ _)⟩
        go_wp2_with fail
        go_quiet (fail)
        go_wp2_with fail
        refine region_tail 9 (by kernel_rfl) (by kernel_rfl) ?_
        simp only [List.take_succ_cons, List.take_zero, List.drop_succ_cons, List.drop_zero]
        repeat still_step
        refine wpStill_nil ?_
        go_wp2_with fail
        refine Calls.mono (pblk_any s[j] _) ?_
        rintro e w' ⟨rfl, rfl⟩
        rw [hb]
        go_wp2_with fail
        go_roundw
        case rel => exact ⟨j + 1, by omega, by omega, HJ2, HW2.out _⟩
        case measure => rw [(HW2.out _).1.at, ha]; omega
      | false =>
        by_cases h47 : s[j].toNat = 47 ∧ ∃ h : j + 1 < s.size, s[j + 1].toNat = 47
        · have hp := (pre_two s j hlt).2 h47
          have hc : canBe s[j] = true := by simp [canBe, h47.1]
          have HJ2 : Hid (skAt s true j = (E, B)) := by
            show _ = _
            rw [← HJ.out, skAt_open h47.2.1 hc hb h47.1 h47.2.2]
            exact skAt_over hlt hc (by simp [h47.1])
          have hne : ((s[j].toNat : Int) != 10) = true := by simp [h47.1]
          have HP := Hid.out (p := Hid _) hp
          have HNE := Hid.out (p := Hid _) hne
          clear h47 hp hne
          go_wp2_with fail
          go_quiet (fail)
          go_wp2_with fail
          refine region_tail 9 (by kernel_rfl) (by kernel_rfl) ?_
          simp only [List.take_succ_cons, List.take_zero, List.drop_succ_cons, List.drop_zero]
          repeat still_step
          refine wpStill_nil ?_
          go_wp2_with fail
          refine Calls.mono (pblk_any s[j] _) ?_
          rintro e w' ⟨rfl, rfl⟩
          rw [hb]
          go_wp2_with fail
          refine region_tail 9 (by kernel_rfl) (by kernel_rfl) ?_
          simp only [List.take_succ_cons, List.take_zero, List.drop_succ_cons, List.drop_zero]
          repeat still_step
          refine wpStill_nil ?_
          go_wp2_with fail
          refine Calls.mono (Tryz.strings_HasPrefix _ _ _) ?_
          rintro e w' ⟨rfl, rfl⟩
          rw [HP.out]
          go_wp2_with fail
          have h2 := HB.out _ (below_drewN (k := nq + 1 + 1) (Below.refl _ _))
          refine Calls.mono (note_any sb s hs j hj2 E B HJ2 _ h2.1) ?_
          rintro e w1 ⟨hg, h3⟩
          have hg2 := grown_then h2.2 hg
          rcases h3 with ⟨v, rfl, j2, hq1, hq2, hq3, hq4, hq5⟩ | ⟨rfl, hB⟩
          · have hj3 := hq3 hlt HNE.out
            have HQ5 : Hid (skAt s false j2 = (E, B)) := hq5
            have HQ4 : Hid (Sc w1 sb s j2 ∧ W.grownBy w1 (some sb)) := ⟨hq4, hg2⟩
            clear hq5 hq4 hq3 hg2 hg h2
            go_wp2_with fail
            go_roundw
            case rel => exact ⟨j2, by omega, hq2, HQ5, HQ4⟩
            case measure => rw [HQ4.out.1.at, ha]; omega
          · exact ⟨rfl, hg2, Or.inr ⟨rfl, hB⟩⟩
        · have hp : Lib.hasPrefix (s.extract j s.size).data.toList [47, 47] = false := by
            rw [Bool.eq_false_iff]
            intro e
            exact h47 ((pre_two s j hlt).1 e)
          have HST : Hid (j = E ∧ Stand s E B) := by
            have h2 := HJ.out
            cases hc : canBe s[j] with
            | false =>
              rw [skAt_bad false hlt hc] at h2
              simp only [Prod.mk.injEq] at h2
              obtain ⟨rfl, rfl⟩ := h2
              exact ⟨rfl, by simp only [Stand, if_true]; exact ⟨hlt, hc⟩⟩
            | true =>
              rw [skAt_stop hlt hc hb h47] at h2
              simp only [Prod.mk.injEq] at h2
              obtain ⟨rfl, rfl⟩ := h2
              exact ⟨rfl, by simp only [Stand, Bool.false_eq_true, if_false]; exact fun _ => hc⟩
          have HP := Hid.out (p := Hid _) hp
          clear h47 hp
          go_wp2_with fail
          go_quiet (fail)
          go_wp2_with fail
          refine region_tail 9 (by kernel_rfl) (by kernel_rfl) ?_
          simp only [List.take_succ_cons, List.take_zero, List.drop_succ_cons, List.drop_zero]
          repeat still_step
          refine wpStill_nil ?_
          go_wp2_with fail
          refine Calls.mono (pblk_any s[j] _) ?_
          rintro e w' ⟨rfl, rfl⟩
          rw [hb]
          go_wp2_with fail
          refine region_tail 9 (by kernel_rfl) (by kernel_rfl) ?_
          simp only [List.take_succ_cons, List.take_zero, List.drop_succ_cons, List.drop_zero]
          repeat still_step
          refine wpStill_nil ?_
          go_wp2_with fail
          refine Calls.mono (Tryz.strings_HasPrefix _ _ _) ?_
          rintro e w' ⟨rfl, rfl⟩
          rw [HP.out]
          go_wp2_with fail
          go_ret
          have h2 := HB.out _ (below_drewN (k := nq + 1 + 1) (Below.refl _ _))
          obtain ⟨rfl, h3⟩ := HST.out
          exact ⟨h2.2, Or.inl ⟨ret_bool (by simpa using hlt), h2.1, h3⟩⟩
    · have hlt' : decide ((j : Int) < (s.size : Int)) = false := by simpa using hlt
      go_wp2_with fail
      go_quiet (fail)
      go_wp2
      go_ret
      have h2 := HJ.out
      rw [skAt_end false (by omega)] at h2
      simp only [Prod.mk.injEq] at h2
      obtain ⟨rfl, rfl⟩ := h2
      have h3 := HB.out _ (below_drewN (k := nq) (Below.refl _ _))
      exact ⟨h3.2, Or.inl ⟨ret_bool (by simpa using hlt), h3.1, by simp only [Stand, Bool.false_eq_true, if_false]; exact fun h => absurd h hlt⟩⟩
end

end Go.Proofs.YtggfbfjdiikaeaaGreatDoor
