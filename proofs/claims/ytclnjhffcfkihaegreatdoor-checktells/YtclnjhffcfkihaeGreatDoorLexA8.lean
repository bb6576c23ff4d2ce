/-
  The program's tokens: signs.
  The program's one token.
-/
import Derived.Test.YtclnjhffcfkihaeGreatDoorLexA7
import Derived.Laws.Rows
namespace Go.Proofs.YtclnjhffcfkihaeGreatDoor
section
open Go.RowKit

theorem LEnv.row {w : World} (h : LEnv w) : ∃ t fr, w.heap[0]? = some (.cells (signsL.map Value.string).toArray t fr) := by
  have h1 := h.sg
  unfold World.var? at h1
  rw [signsName] at h1
  simp only [Option.bind_some] at h1
  split at h1
  · rename_i cs t fr hh
    simp only [Option.some.injEq] at h1
    exact ⟨t, fr, by rw [hh, h1]⟩
  · cases h1
theorem idx_sign (W : World) : ∀ k : Nat, k < 19 → (Instr.index 125 (.agg (signsL.map Value.string).toArray) (.int .i64 (k : Int))).run Tryz.prog W = .ok (.string (signsL.getD k ⟨#[]⟩)) W
  | 0, _ => by kernel_rfl
  | 1, _ => by kernel_rfl
  | 2, _ => by kernel_rfl
  | 3, _ => by kernel_rfl
  | 4, _ => by kernel_rfl
  | 5, _ => by kernel_rfl
  | 6, _ => by kernel_rfl
  | 7, _ => by kernel_rfl
  | 8, _ => by kernel_rfl
  | 9, _ => by kernel_rfl
  | 10, _ => by kernel_rfl
  | 11, _ => by kernel_rfl
  | 12, _ => by kernel_rfl
  | 13, _ => by kernel_rfl
  | 14, _ => by kernel_rfl
  | 15, _ => by kernel_rfl
  | 16, _ => by kernel_rfl
  | 17, _ => by kernel_rfl
  | 18, _ => by kernel_rfl
  | _ + 19, h => absurd h (by omega)

/-- The first sign that can stand. -/
def findS (l : List UInt8) (gs : List ByteArray) : Option ByteArray := gs.find? fun g => Lib.hasPrefix l g.data.toList
theorem has_two (l : List UInt8) (x y : UInt8) : Lib.hasPrefix l [x, y] = decide (l.take 2 = [x, y]) := by
  match l with
  | [] => simp [Lib.hasPrefix]
  | [a] => simp [Lib.hasPrefix, List.isPrefixOf]
  | a :: b :: r =>
    rw [Bool.eq_iff_iff]
    simp only [Lib.hasPrefix, List.isPrefixOf, Bool.and_true, Bool.and_eq_true, beq_iff_eq, decide_eq_true_eq, List.take_succ_cons, List.take_zero, List.cons.injEq, and_true]
    exact ⟨fun h => ⟨h.1.symm, h.2.symm⟩, fun h => ⟨h.1.symm, h.2.symm⟩⟩
theorem has_one (l : List UInt8) (x : UInt8) : Lib.hasPrefix l [x] = decide (l.head? = some x) := by
  match l with
  | [] => simp [Lib.hasPrefix]
  | a :: r =>
    rw [Bool.eq_iff_iff]
    simp only [Lib.hasPrefix, List.isPrefixOf, Bool.and_true, beq_iff_eq, decide_eq_true_eq, List.head?_cons, Option.some.injEq]
    exact ⟨fun h => h.symm, fun h => h.symm⟩
theorem findS_all (b : UInt8) (r : List UInt8) : findS (b :: r) signsL = if signN (b :: r) = 0 then none else some ⟨⟨(b :: r).take (signN (b :: r))⟩⟩ := by
  unfold findS signsL
  simp only [List.find?_cons, List.find?_nil, has_two, has_one, List.head?_cons, Option.some.injEq]
  by_cases h : (b :: r).take 2 ∈ twoL
  · rw [signN_two h, if_neg (by decide)]
    simp only [twoL, List.mem_cons, List.not_mem_nil, or_false] at h
    rcases h with h | h | h | h | h | h <;> simp only [h] <;> rfl
  · have hn : signN (b :: r) = if b ∈ oneS then 1 else 0 := by unfold signN; rw [if_neg h]
    simp only [twoL, List.mem_cons, List.not_mem_nil, or_false, not_or] at h
    obtain ⟨h1, h2, h3, h4, h5, h6⟩ := h
    simp only [h1, h2, h3, h4, h5, h6, decide_false]
    rw [hn]
    by_cases hb : b ∈ oneS
    · simp only [if_pos hb, List.take_succ_cons, List.take_zero]
      rw [if_neg (by decide)]
      simp only [oneS, List.mem_cons, List.not_mem_nil, or_false] at hb
      rcases hb with rfl | rfl | rfl | rfl | rfl | rfl | rfl | rfl | rfl | rfl | rfl | rfl | rfl <;> rfl
    · simp only [if_neg hb, if_true]
      simp only [oneS, List.mem_cons, List.not_mem_nil, or_false, not_or] at hb
      simp [hb]


theorem signs_len : signsL.length = 19 := rfl
theorem findS_step {l : List UInt8} {j : Nat} (h : j < 19) : findS l (signsL.drop j) = if Lib.hasPrefix l (signsL.getD j ⟨#[]⟩).data.toList = true then some (signsL.getD j ⟨#[]⟩) else findS l (signsL.drop (j + 1)) := by
  have hl : j < signsL.length := by rw [signs_len]; exact h
  rw [List.drop_eq_getElem_cons hl]
  have e : signsL.getD j ⟨#[]⟩ = signsL[j] := by simp [List.getD, List.getElem?_eq_getElem hl]
  rw [e, findS, List.find?_cons]
  split
  · rename_i h1; rw [if_pos h1]
  · rename_i h1; rw [if_neg (by simp [h1])]; rfl
theorem sign_hit {s : ByteArray} {i : Nat} (hi : i < s.size) (hl : isLet s[i] = false) (hd : isDig s[i] = false) {g : ByteArray} (h : findS (s.data.toList.drop i) signsL = some g) :
    oneL (s.data.toList.drop i) = some (4, 0, g.size) ∧ i + g.size ≤ s.size ∧ s.extract i (i + g.size) = g := by
  have h1 := findS_all s[i] (s.data.toList.drop (i + 1))
  rw [← drop_at s i hi, h] at h1
  have hle := signN_le (s.data.toList.drop i)
  have hsl : s.data.toList.length = s.size := by simp
  rw [List.length_drop, hsl] at hle
  split at h1
  · cases h1
  · rename_i h2
    have h3 : g.data.toList = (s.data.toList.drop i).take (signN (s.data.toList.drop i)) := by
      have := Option.some.inj h1
      rw [this]
    have h4 : g.size = signN (s.data.toList.drop i) := by
      rw [Lib.size_eq, h3, List.length_take, List.length_drop, hsl]; omega
    refine ⟨?_, by rw [h4]; omega, ?_⟩
    · rw [oneL_sign hi hl hd, if_neg h2, h4]
    · apply ByteArray.ext
      apply Array.toList_inj.mp
      rw [ext_list, Nat.add_sub_cancel_left, h4, h3]
theorem sign_miss {s : ByteArray} {i : Nat} (hi : i < s.size) (hl : isLet s[i] = false) (hd : isDig s[i] = false) (h : findS (s.data.toList.drop i) signsL = none) : oneL (s.data.toList.drop i) = none := by
  have h1 := findS_all s[i] (s.data.toList.drop (i + 1))
  rw [← drop_at s i hi, h] at h1
  rw [oneL_sign hi hl hd]
  split at h1
  · rename_i h2; rw [if_pos h2]
  · cases h1

set_option maxRecDepth 100000 in
set_option maxHeartbeats 1600000 in
theorem lexSign_any (sb : Nat) (s : ByteArray) (hs : s.size ≤ 4000) (i : Nat) (hi : i < s.size) (hl : isLet s[i] = false) (hd : isDig s[i] = false) (w : World) (h : Sc w sb s i) (hE : LEnv w) :
    Calls Tryz.prog 86 #[.pointer (some ⟨sb, 0, none⟩)] w fun e w' => TokQ w sb s i e w' := by
  have hA : Below w.heap.size w (w.alloc (.cells #[.int .i64 0, .int .i64 0, .int .i64 0, .string ⟨#[]⟩] 66)) := (Below.refl _ _).alloc (Nat.le_refl _) _
  obtain ⟨gt, gf, hrow⟩ := (hE.below hA).row
  obtain ⟨V, hV⟩ : ∃ V, w.alloc (.cells #[.int .i64 0, .int .i64 0, .int .i64 0, .string ⟨#[]⟩] 66) = V := ⟨_, rfl⟩
  obtain ⟨A, hAe⟩ : ∃ A, (signsL.map Value.string).toArray = A := ⟨_, rfl⟩
  have hsz : A.size = 19 := by rw [← hAe]; rfl
  have hidx := idx_sign
  rw [hAe] at hrow hidx
  have hxV : V.heap[w.heap.size]? = some (.cells #[.int .i64 0, .int .i64 0, .int .i64 0, .string ⟨#[]⟩] 66) := by rw [← hV]; exact heap_alloc_new _ _
  have hSV : Sc V sb s i := by rw [← hV]; exact h.below hA
  rw [hV] at hA
  have HV : Hid (Below w.heap.size w V ∧ Sc V sb s i ∧ V.heap[w.heap.size]? = some (.cells #[.int .i64 0, .int .i64 0, .int .i64 0, .string ⟨#[]⟩] 66)) := ⟨hA, hSV, hxV⟩
  have HVE := Hid.out (p := Hid _) hV
  clear hA hSV hxV hV hAe
  go_enter Tryz.func86, Tryz.ntmps86
  go_wp2_with (refine wpList_load_row rfl 125 _ rfl 0 rfl gt _ gf _ hrow Tryz.underlying125 rfl (by rw [hsz]; kernel_rfl) ?_)
  rw [HVE.out]
  clear hrow
  go_loopw [6] (fun k wr => ∃ j : Nat, j ≤ 19 ∧ k = .int .i64 (j : Int) ∧ Hid (findS (s.data.toList.drop i) (signsL.drop j) = findS (s.data.toList.drop i) signsL) ∧ Hid (Below V.heap.size V wr)) (fun k _ => 19 - (intOf k).toNat)
  case atStart => exact ⟨0, by omega, rfl, (rfl : _ = _), Below.refl _ _⟩
  case round =>
    obtain ⟨j, hj, rfl, HF, HW⟩ := hrel
    have hSw : Sc wr sb s i := HV.out.2.1.below HW.out
    have h0 := hSw.c0
    have h1 := hSw.c1
    have hf := hSw.fr
    have HS : Hid (Sc wr sb s i) := hSw
    have hi' : (i : Int) ≤ (s.size : Int) := by omega
    have hi2 : i ≤ s.size := by omega
    clear hSw
    by_cases hlt : j < 19
    · have hlt' : (j : Int) < 19 := by omega
      have hix := fun W => hidx W j hlt
      obtain ⟨g, hg⟩ : ∃ g, signsL.getD j ⟨#[]⟩ = g := ⟨_, rfl⟩
      rw [hg] at hix
      have HST := Hid.out (p := Hid _) (findS_step (l := s.data.toList.drop i) hlt)
      rw [hg] at HST
      clear hidx hg
      cases hp : Lib.hasPrefix (s.extract i s.size).data.toList g.data.toList with
      | true =>
        obtain ⟨hq1, hq2, hq3⟩ := sign_hit hi hl hd (g := g) (by
          have h2 := HF.out
          rw [HST.out, ← rest_list, if_pos hp] at h2
          rw [← rest_list]; exact h2.symm)
        have HQ : Hid (∀ e w', w.grownBy w' (some sb) → e = .returned (.agg #[.int .i64 4, .int .i64 0, .int .i64 i, .string g]) → Sc w' sb s (i + g.size) → TokQ w sb s i e w') := fun e w' hg he hc => by
          unfold TokQ
          rw [hq1]
          refine ⟨hg, ?_, hc⟩
          rw [hq3]
          exact he
        have HS2 : Hid (Sc (wr.setCell ⟨sb, 1, none⟩ (.int .i64 ((i : Int) + (g.size : Int)))).drew sb s (i + g.size) ∧ w.grownBy (wr.setCell ⟨sb, 1, none⟩ (.int .i64 ((i : Int) + (g.size : Int)))).drew (some sb) ∧ (wr.setCell ⟨sb, 1, none⟩ (.int .i64 ((i : Int) + (g.size : Int)))).drew.heap[w.heap.size]? = some (.cells #[.int .i64 0, .int .i64 0, .int .i64 0, .string ⟨#[]⟩] 66) ∧ w.heap.size < (wr.setCell ⟨sb, 1, none⟩ (.int .i64 ((i : Int) + (g.size : Int)))).drew.heap.size) := by
          have e : ((i + g.size : Nat) : Int) = (i : Int) + (g.size : Int) := by omega
          have hS3 := HS.out.set (i + g.size)
          rw [e] at hS3
          have hlt2 : w.heap.size < V.heap.size := by
            rw [← HVE.out]; simp
          have hne : w.heap.size ≠ sb := by have := h.lt; omega
          refine ⟨hS3.below (Below.refl _ _).drew, ?_, ?_, ?_⟩
          · exact grown_then (grown_of_below HV.out.1 _) (grown_then (grown_of_below HW.out _) (grown_then (grown_set _ _ _ _) (grown_of_below (Below.refl _ _).drew _)))
          · exact (Below.heap_setCell _ _ _ _ hne).trans ((HW.out.block _ hlt2).trans HV.out.2.2)
          · have := HW.out.size
            show _ < (wr.setCell _ _).heap.size
            simp only [World.setCell, Array.size_modify]
            omega
        clear hq1 hq3
        go_wp2_with fail
        refine region_tail 10 (by kernel_rfl) (by kernel_rfl) ?_
        simp only [List.take_succ_cons, List.take_zero, List.drop_succ_cons, List.drop_zero]
        repeat still_step
        refine wpStill_nil ?_
        go_wp2_with fail
        refine Calls.mono (Tryz.strings_HasPrefix _ _ _) ?_
        rintro e w' ⟨rfl, rfl⟩
        rw [hp]
        go_wp2_with (first | (go_at_call 111; refine (taken_any sb s (i + g.size) (by omega) _ g (by omega) _ HS2.out.1).mono ?_; rintro e w2 ⟨rfl, hb2⟩; have hx2 := (hb2.block _ HS2.out.2.2.2).trans HS2.out.2.2.1; have p0 := box_cell (i := 0) hx2 rfl; have p1 := box_cell (i := 1) hx2 rfl; have p2 := box_cell (i := 2) hx2 rfl; have p3 := box_cell (i := 3) hx2 rfl; have pf := fun j => box_free (i := j) hx2; clear hx2))
        have hne : w.heap.size ≠ sb := by have := h.lt; omega
        have hg2 : w.grownBy w2 (some sb) := grown_then HS2.out.2.1 (grown_of_below hb2 _)
        refine bodyPost_ret (v := .agg #[.int .i64 4, .int .i64 0, .int .i64 i, .string g]) (by simp [results, Tryz.results86, go_sem, p0, p1, p2, p3]) rfl (HQ.out _ _ ?_ rfl ?_)
        · exact grown_high (grown_high (grown_high (grown_high hg2 (Nat.le_refl _) _) (Nat.le_refl _) _) (Nat.le_refl _) _) (Nat.le_refl _) _
        · exact ((((HS2.out.1.below hb2).far hne _).far hne _).far hne _).far hne _
      | false =>
        have HF2 : Hid (findS (s.data.toList.drop i) (signsL.drop (j + 1)) = findS (s.data.toList.drop i) signsL) := by
          show _ = _
          rw [← HF.out, HST.out, if_neg (by rw [← rest_list, hp]; simp)]
        go_wp2_with fail
        refine region_tail 10 (by kernel_rfl) (by kernel_rfl) ?_
        simp only [List.take_succ_cons, List.take_zero, List.drop_succ_cons, List.drop_zero]
        repeat still_step
        refine wpStill_nil ?_
        go_wp2_with fail
        refine Calls.mono (Tryz.strings_HasPrefix _ _ _) ?_
        rintro e w' ⟨rfl, rfl⟩
        rw [hp]
        go_wp2_with fail
        go_roundw
        case rel => exact ⟨j + 1, by omega, by go_num, HF2, HW.out.drew⟩
        case measure => simp [intOf]; omega
    · have hlt' : ¬ (j : Int) < 19 := by omega
      have hq1 := sign_miss hi hl hd (by
        have h2 := HF.out
        rw [show j = 19 by omega] at h2
        exact h2.symm)
      clear hidx
      go_wp2_with fail
      refine ⟨rfl, grown_then (grown_of_below HV.out.1 _) (grown_of_below HW.out _), ?_⟩
      rw [hq1]
      rfl
end

section
open Go.RowKit

set_option maxRecDepth 100000 in
set_option maxHeartbeats 1600000 in
theorem token_bad (sb : Nat) (s : ByteArray) (i : Nat) (hi : i < s.size) (hc : canBe s[i] = false) (w : World) (h : Sc w sb s i) :
    Calls Tryz.prog 53 #[.pointer (some ⟨sb, 0, none⟩)] w fun e w' => e = .panicked (badB i) ∧ w.grownBy w' (some sb) := by
  have hA : Below w.heap.size w (w.alloc (.cells #[.int .i64 0, .int .i64 0, .int .i64 0, .string ⟨#[]⟩] 66)) := (Below.refl _ _).alloc (Nat.le_refl _) _
  have hSA := h.below hA
  go_enter Tryz.func53, Tryz.ntmps53
  go_wp2_with (first | (go_at_call 81; refine (ask_no sb s i hi hc _ hSA).mono ?_; rintro e w' ⟨rfl, hb⟩))
  exact ⟨rfl, rfl, grown_then (grown_of_below hA _) (grown_of_below hb _)⟩

set_option maxRecDepth 100000 in
set_option maxHeartbeats 1600000 in
theorem token_any (sb : Nat) (s : ByteArray) (hs : s.size ≤ 4000) (i : Nat) (hi : i < s.size) (hc : canBe s[i] = true) (w : World) (h : Sc w sb s i) (hE : LEnv w) (hsb : 6 ≤ sb) :
    Calls Tryz.prog 53 #[.pointer (some ⟨sb, 0, none⟩)] w fun e w' => TokQ w sb s i e w' := by
  have hA : Below w.heap.size w (w.alloc (.cells #[.int .i64 0, .int .i64 0, .int .i64 0, .string ⟨#[]⟩] 66)) := (Below.refl _ _).alloc (Nat.le_refl _) _
  have HA : Hid (Below w.heap.size w (w.alloc (.cells #[.int .i64 0, .int .i64 0, .int .i64 0, .string ⟨#[]⟩] 66)) ∧ Sc (w.alloc (.cells #[.int .i64 0, .int .i64 0, .int .i64 0, .string ⟨#[]⟩] 66)) sb s i ∧ True) := ⟨hA, h.below hA, trivial⟩
  obtain ⟨V, hV⟩ : ∃ V, w.alloc (.cells #[.int .i64 0, .int .i64 0, .int .i64 0, .string ⟨#[]⟩] 66) = V := ⟨_, rfl⟩
  have HVE := Hid.out (p := Hid _) hV
  have HV : Hid (Below w.heap.size w V ∧ Sc V sb s i ∧ V.heap[w.heap.size]? = some (.cells #[.int .i64 0, .int .i64 0, .int .i64 0, .string ⟨#[]⟩] 66) ∧ w.heap.size < V.heap.size ∧ w.heap.size ≠ sb) := by
    show _ ∧ _
    rw [← hV]
    exact ⟨hA, h.below hA, heap_alloc_new _ _, by simp, by have := h.lt; omega⟩
  have HEN : Hid (LEnv V) := by
    show LEnv V
    rw [← hV]; exact hE.below hA
  have HT : Hid (∀ e w', (w.grownBy w' (some sb) ∧ match oneL (s.data.toList.drop i) with
    | none => e = .panicked (badT i)
    | some (k, v, m) => e = .returned (.agg #[.int .i64 k, .int .i64 v, .int .i64 i, .string (s.extract i (i + m))]) ∧ Sc w' sb s (i + m)) → TokQ w sb s i e w') := fun _ _ h => h
  clear hA hV hE h
  cases hl : isLet s[i] with
  | true =>
    go_enter Tryz.func53, Tryz.ntmps53
    go_wp2_with (first | (go_at_call 81; refine (ask_yes sb s i hi hc _ HA.out.2.1).mono ?_; rintro e w' ⟨rfl, m, rfl⟩))
    rw [HVE.out]
    have h0 := HV.out.2.1.c0
    have h1 := HV.out.2.1.c1
    go_quiet (fail)
    clear h0 h1
    go_wp2_with (first | (go_at_call 82; refine (plet_any s[i] _).mono ?_; rintro e w' ⟨rfl, rfl⟩; rw [hl]))
    obtain ⟨X, hX⟩ : ∃ X, X = V.drewN (m + nq) := ⟨_, rfl⟩
    have hbX : Below V.heap.size V X := by rw [hX]; exact below_drewN (Below.refl _ _)
    try rw [World.drewN_drewN]
    rw [← hX]
    refine (lexName_any sb s hs i hi hl X (HV.out.2.1.below hbX)).mono ?_
    rintro e w2 ⟨hg2, hq⟩
    have hg3 : w.grownBy w2 (some sb) := grown_then (grown_of_below HV.out.1 _) (grown_then (grown_of_below hbX _) hg2)
    have hx2 : w2.heap[w.heap.size]? = some (.cells #[.int .i64 0, .int .i64 0, .int .i64 0, .string ⟨#[]⟩] 66) := (hg2.block _ (Nat.lt_of_lt_of_le HV.out.2.2.2.1 hbX.size) (by simp; exact HV.out.2.2.2.2)).trans ((hbX.block _ HV.out.2.2.2.1).trans HV.out.2.2.1)
    have hT := HT.out
    cases ho : oneL (s.data.toList.drop i) with
    | none =>
      rw [ho] at hq hT
      obtain rfl := hq
      exact ⟨rfl, hT _ _ ⟨hg3, rfl⟩⟩
    | some y =>
      obtain ⟨kk, vv, mm⟩ := y
      rw [ho] at hq hT
      obtain ⟨rfl, hS⟩ := hq
      have p0 := box_cell (i := 0) hx2 rfl
      have p1 := box_cell (i := 1) hx2 rfl
      have p2 := box_cell (i := 2) hx2 rfl
      have p3 := box_cell (i := 3) hx2 rfl
      have pf := fun j => box_free (i := j) hx2
      have HS2 : Hid (Sc w2 sb s (i + mm) ∧ w.grownBy w2 (some sb)) := ⟨hS, hg3⟩
      have HT2 := Hid.out (p := Hid _) hT
      clear hx2 hS hg3 hT hg2 hX hbX ho
      go_wp2
      refine bodyPost_ret (v := .agg #[.int .i64 kk, .int .i64 vv, .int .i64 i, .string (s.extract i (i + mm))]) (by simp [results, Tryz.results53, go_sem, p0, p1, p2, p3]) rfl (HT2.out _ _ ⟨?_, rfl, ?_⟩)
      · exact grown_high (grown_high (grown_high (grown_high HS2.out.2 (Nat.le_refl _) _) (Nat.le_refl _) _) (Nat.le_refl _) _) (Nat.le_refl _) _
      · exact (((HS2.out.1.far HV.out.2.2.2.2 _).far HV.out.2.2.2.2 _).far HV.out.2.2.2.2 _).far HV.out.2.2.2.2 _
  | false =>
    cases hd : isDig s[i] with
    | true =>
      go_enter Tryz.func53, Tryz.ntmps53
      go_wp2_with (first | (go_at_call 81; refine (ask_yes sb s i hi hc _ HA.out.2.1).mono ?_; rintro e w' ⟨rfl, m, rfl⟩))
      rw [HVE.out]
      have h0 := HV.out.2.1.c0
      have h1 := HV.out.2.1.c1
      go_quiet (fail)
      clear h0 h1
      go_wp2_with (first | (go_at_call 82; refine (plet_any s[i] _).mono ?_; rintro e w' ⟨rfl, rfl⟩; rw [hl]) | (go_at_call 84; refine (pdig_any s[i] _).mono ?_; rintro e w' ⟨rfl, rfl⟩; rw [hd]))
      obtain ⟨X, hX⟩ : ∃ X, X = V.drewN (m + nq) := ⟨_, rfl⟩
      have hbX : Below V.heap.size V X := by rw [hX]; exact below_drewN (Below.refl _ _)
      try rw [World.drewN_drewN]
      rw [← hX]
      refine (lexNumber_any sb s hs i hi hl hd X (HV.out.2.1.below hbX) (HEN.out.below hbX) hsb).mono ?_
      rintro e w2 ⟨hg2, hq⟩
      have hg3 : w.grownBy w2 (some sb) := grown_then (grown_of_below HV.out.1 _) (grown_then (grown_of_below hbX _) hg2)
      have hx2 : w2.heap[w.heap.size]? = some (.cells #[.int .i64 0, .int .i64 0, .int .i64 0, .string ⟨#[]⟩] 66) := (hg2.block _ (Nat.lt_of_lt_of_le HV.out.2.2.2.1 hbX.size) (by simp; exact HV.out.2.2.2.2)).trans ((hbX.block _ HV.out.2.2.2.1).trans HV.out.2.2.1)
      have hT := HT.out
      cases ho : oneL (s.data.toList.drop i) with
      | none =>
        rw [ho] at hq hT
        obtain rfl := hq
        exact ⟨rfl, hT _ _ ⟨hg3, rfl⟩⟩
      | some y =>
        obtain ⟨kk, vv, mm⟩ := y
        rw [ho] at hq hT
        obtain ⟨rfl, hS⟩ := hq
        have p0 := box_cell (i := 0) hx2 rfl
        have p1 := box_cell (i := 1) hx2 rfl
        have p2 := box_cell (i := 2) hx2 rfl
        have p3 := box_cell (i := 3) hx2 rfl
        have pf := fun j => box_free (i := j) hx2
        have HS2 : Hid (Sc w2 sb s (i + mm) ∧ w.grownBy w2 (some sb)) := ⟨hS, hg3⟩
        have HT2 := Hid.out (p := Hid _) hT
        clear hx2 hS hg3 hT hg2 hX hbX ho
        go_wp2
        refine bodyPost_ret (v := .agg #[.int .i64 kk, .int .i64 vv, .int .i64 i, .string (s.extract i (i + mm))]) (by simp [results, Tryz.results53, go_sem, p0, p1, p2, p3]) rfl (HT2.out _ _ ⟨?_, rfl, ?_⟩)
        · exact grown_high (grown_high (grown_high (grown_high HS2.out.2 (Nat.le_refl _) _) (Nat.le_refl _) _) (Nat.le_refl _) _) (Nat.le_refl _) _
        · exact (((HS2.out.1.far HV.out.2.2.2.2 _).far HV.out.2.2.2.2 _).far HV.out.2.2.2.2 _).far HV.out.2.2.2.2 _
    | false =>
      go_enter Tryz.func53, Tryz.ntmps53
      go_wp2_with (first | (go_at_call 81; refine (ask_yes sb s i hi hc _ HA.out.2.1).mono ?_; rintro e w' ⟨rfl, m, rfl⟩))
      rw [HVE.out]
      have h0 := HV.out.2.1.c0
      have h1 := HV.out.2.1.c1
      go_quiet (fail)
      clear h0 h1
      go_wp2_with (first | (go_at_call 82; refine (plet_any s[i] _).mono ?_; rintro e w' ⟨rfl, rfl⟩; rw [hl]) | (go_at_call 84; refine (pdig_any s[i] _).mono ?_; rintro e w' ⟨rfl, rfl⟩; rw [hd]))
      obtain ⟨X, hX⟩ : ∃ X, X = V.drewN (m + nq) := ⟨_, rfl⟩
      have hbX : Below V.heap.size V X := by rw [hX]; exact below_drewN (Below.refl _ _)
      try rw [World.drewN_drewN]
      rw [← hX]
      refine (lexSign_any sb s hs i hi hl hd X (HV.out.2.1.below hbX) (HEN.out.below hbX)).mono ?_
      rintro e w2 ⟨hg2, hq⟩
      have hg3 : w.grownBy w2 (some sb) := grown_then (grown_of_below HV.out.1 _) (grown_then (grown_of_below hbX _) hg2)
      have hx2 : w2.heap[w.heap.size]? = some (.cells #[.int .i64 0, .int .i64 0, .int .i64 0, .string ⟨#[]⟩] 66) := (hg2.block _ (Nat.lt_of_lt_of_le HV.out.2.2.2.1 hbX.size) (by simp; exact HV.out.2.2.2.2)).trans ((hbX.block _ HV.out.2.2.2.1).trans HV.out.2.2.1)
      have hT := HT.out
      cases ho : oneL (s.data.toList.drop i) with
      | none =>
        rw [ho] at hq hT
        obtain rfl := hq
        exact ⟨rfl, hT _ _ ⟨hg3, rfl⟩⟩
      | some y =>
        obtain ⟨kk, vv, mm⟩ := y
        rw [ho] at hq hT
        obtain ⟨rfl, hS⟩ := hq
        have p0 := box_cell (i := 0) hx2 rfl
        have p1 := box_cell (i := 1) hx2 rfl
        have p2 := box_cell (i := 2) hx2 rfl
        have p3 := box_cell (i := 3) hx2 rfl
        have pf := fun j => box_free (i := j) hx2
        have HS2 : Hid (Sc w2 sb s (i + mm) ∧ w.grownBy w2 (some sb)) := ⟨hS, hg3⟩
        have HT2 := Hid.out (p := Hid _) hT
        clear hx2 hS hg3 hT hg2 hX hbX ho
        go_wp2
        refine bodyPost_ret (v := .agg #[.int .i64 kk, .int .i64 vv, .int .i64 i, .string (s.extract i (i + mm))]) (by simp [results, Tryz.results53, go_sem, p0, p1, p2, p3]) rfl (HT2.out _ _ ⟨?_, rfl, ?_⟩)
        · exact grown_high (grown_high (grown_high (grown_high HS2.out.2 (Nat.le_refl _) _) (Nat.le_refl _) _) (Nat.le_refl _) _) (Nat.le_refl _) _
        · exact (((HS2.out.1.far HV.out.2.2.2.2 _).far HV.out.2.2.2.2 _).far HV.out.2.2.2.2 _).far HV.out.2.2.2.2 _
end

end Go.Proofs.YtclnjhffcfkihaeGreatDoor
