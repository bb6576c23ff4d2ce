/-
  The program's one token.
-/
import Derived.Test.YtmodiekhiebjoadDoorLexA8
namespace Go.Proofs.YtmodiekhiebjoadDoor
open Go.RowKit

set_option maxHeartbeats 1600000 in
theorem token_bad (sb : Nat) (s : ByteArray) (i : Nat) (hi : i < s.size) (hc : canBe s[i] = false) (w : World) (h : Sc w sb s i) :
    Calls Tryd.prog 11 #[.pointer (some ⟨sb, 0, none⟩)] w fun e w' => e = .panicked (badB i) ∧ w.grownBy w' (some sb) := by
  have hA : Below w.heap.size w (w.alloc (.cells #[.int .i64 0, .int .i64 0, .int .i64 0, .string ⟨#[]⟩] 29)) := (Below.refl _ _).alloc (Nat.le_refl _) _
  have hSA := h.below hA
  go_enter Tryd.func11, Tryd.ntmps11
  go_wp2_with (first | (go_at_call 21; refine (ask_no sb s i hi hc _ hSA).mono ?_; rintro e w' ⟨rfl, hb⟩))
  exact ⟨rfl, rfl, grown_then (grown_of_below hA _) (grown_of_below hb _)⟩

set_option maxHeartbeats 1600000 in
theorem token_any (sb : Nat) (s : ByteArray) (hs : s.size ≤ 4000) (i : Nat) (hi : i < s.size) (hc : canBe s[i] = true) (w : World) (h : Sc w sb s i) (hE : LEnv w) (hsb : 6 ≤ sb) :
    Calls Tryd.prog 11 #[.pointer (some ⟨sb, 0, none⟩)] w fun e w' => TokQ w sb s i e w' := by
  have hA : Below w.heap.size w (w.alloc (.cells #[.int .i64 0, .int .i64 0, .int .i64 0, .string ⟨#[]⟩] 29)) := (Below.refl _ _).alloc (Nat.le_refl _) _
  have HA : Hid (Below w.heap.size w (w.alloc (.cells #[.int .i64 0, .int .i64 0, .int .i64 0, .string ⟨#[]⟩] 29)) ∧ Sc (w.alloc (.cells #[.int .i64 0, .int .i64 0, .int .i64 0, .string ⟨#[]⟩] 29)) sb s i ∧ True) := ⟨hA, h.below hA, trivial⟩
  obtain ⟨V, hV⟩ : ∃ V, w.alloc (.cells #[.int .i64 0, .int .i64 0, .int .i64 0, .string ⟨#[]⟩] 29) = V := ⟨_, rfl⟩
  have HVE := Hid.out (p := Hid _) hV
  have HV : Hid (Below w.heap.size w V ∧ Sc V sb s i ∧ V.heap[w.heap.size]? = some (.cells #[.int .i64 0, .int .i64 0, .int .i64 0, .string ⟨#[]⟩] 29) ∧ w.heap.size < V.heap.size ∧ w.heap.size ≠ sb) := by
    show _ ∧ _
    rw [← hV]
    exact ⟨hA, h.below hA, heap_alloc_new _ _, by simp, by have := h.lt; omega⟩
  have HEN : Hid (LEnv V) := by
    show LEnv V
    rw [← hV]; exact hE.below hA
  have HT : Hid (∀ e w', (w.grownBy w' (some sb) ∧ match oneL (s.data.toList.drop i) with
    | none => e = .panicked (badT i)
    | some (k, v, m) => e = .returned (.agg #[.int .i64 k, .int .i64 v, .int .i64 i, .string (s.extract i (i + m))]) ∧ Sc w' sb s (i + m)) → TokQ w sb s i e w') := fun _ _ h => h
  clear hA hV hE h
  cases hl : isLet s[i] with
  | true =>
    go_enter Tryd.func11, Tryd.ntmps11
    go_wp2_with (first | (go_at_call 21; refine (ask_yes sb s i hi hc _ HA.out.2.1).mono ?_; rintro e w' ⟨rfl, m, rfl⟩))
    rw [HVE.out]
    have h0 := HV.out.2.1.c0
    have h1 := HV.out.2.1.c1
    go_quiet (fail)
    clear h0 h1
    go_wp2_with (first | (go_at_call 22; refine (plet_any s[i] _).mono ?_; rintro e w' ⟨rfl, rfl⟩; rw [hl]))
    obtain ⟨X, hX⟩ : ∃ X, X = V.drewN (m + nq) := ⟨_, rfl⟩
    have hbX : Below V.heap.size V X := by rw [hX]; exact below_drewN (Below.refl _ _)
    try rw [World.drewN_drewN]
    rw [← hX]
    refine (name_any sb s hs i hi hl X (HV.out.2.1.below hbX)).mono ?_
    rintro e w2 ⟨hg2, hq⟩
    have hg3 : w.grownBy w2 (some sb) := grown_then (grown_of_below HV.out.1 _) (grown_then (grown_of_below hbX _) hg2)
    have hx2 : w2.heap[w.heap.size]? = some (.cells #[.int .i64 0, .int .i64 0, .int .i64 0, .string ⟨#[]⟩] 29) := (hg2.block _ (Nat.lt_of_lt_of_le HV.out.2.2.2.1 hbX.size) (by simp; exact HV.out.2.2.2.2)).trans ((hbX.block _ HV.out.2.2.2.1).trans HV.out.2.2.1)
    have hT := HT.out
    cases ho : oneL (s.data.toList.drop i) with
    | none =>
      rw [ho] at hq hT
      obtain rfl := hq
      exact ⟨rfl, hT _ _ ⟨hg3, rfl⟩⟩
    | some y =>
      obtain ⟨kk, vv, mm⟩ := y
      rw [ho] at hq hT
      obtain ⟨rfl, hS⟩ := hq
      have p0 := box_cell (i := 0) hx2 rfl
      have p1 := box_cell (i := 1) hx2 rfl
      have p2 := box_cell (i := 2) hx2 rfl
      have p3 := box_cell (i := 3) hx2 rfl
      have pf := fun j => box_free (i := j) hx2
      have HS2 : Hid (Sc w2 sb s (i + mm) ∧ w.grownBy w2 (some sb)) := ⟨hS, hg3⟩
      have HT2 := Hid.out (p := Hid _) hT
      clear hx2 hS hg3 hT hg2 hX hbX ho
      go_wp2
      refine bodyPost_ret (v := .agg #[.int .i64 kk, .int .i64 vv, .int .i64 i, .string (s.extract i (i + mm))]) (by simp [results, Tryd.results11, go_sem, p0, p1, p2, p3]) rfl (HT2.out _ _ ⟨?_, rfl, ?_⟩)
      · exact grown_high (grown_high (grown_high (grown_high HS2.out.2 (Nat.le_refl _) _) (Nat.le_refl _) _) (Nat.le_refl _) _) (Nat.le_refl _) _
      · exact (((HS2.out.1.far HV.out.2.2.2.2 _).far HV.out.2.2.2.2 _).far HV.out.2.2.2.2 _).far HV.out.2.2.2.2 _
  | false =>
    cases hd : isDig s[i] with
    | true =>
      go_enter Tryd.func11, Tryd.ntmps11
      go_wp2_with (first | (go_at_call 21; refine (ask_yes sb s i hi hc _ HA.out.2.1).mono ?_; rintro e w' ⟨rfl, m, rfl⟩))
      rw [HVE.out]
      have h0 := HV.out.2.1.c0
      have h1 := HV.out.2.1.c1
      go_quiet (fail)
      clear h0 h1
      go_wp2_with (first | (go_at_call 22; refine (plet_any s[i] _).mono ?_; rintro e w' ⟨rfl, rfl⟩; rw [hl]) | (go_at_call 24; refine (pdig_any s[i] _).mono ?_; rintro e w' ⟨rfl, rfl⟩; rw [hd]))
      obtain ⟨X, hX⟩ : ∃ X, X = V.drewN (m + nq) := ⟨_, rfl⟩
      have hbX : Below V.heap.size V X := by rw [hX]; exact below_drewN (Below.refl _ _)
      try rw [World.drewN_drewN]
      rw [← hX]
      refine (number_any sb s hs i hi hl hd X (HV.out.2.1.below hbX) (HEN.out.below hbX) hsb).mono ?_
      rintro e w2 ⟨hg2, hq⟩
      have hg3 : w.grownBy w2 (some sb) := grown_then (grown_of_below HV.out.1 _) (grown_then (grown_of_below hbX _) hg2)
      have hx2 : w2.heap[w.heap.size]? = some (.cells #[.int .i64 0, .int .i64 0, .int .i64 0, .string ⟨#[]⟩] 29) := (hg2.block _ (Nat.lt_of_lt_of_le HV.out.2.2.2.1 hbX.size) (by simp; exact HV.out.2.2.2.2)).trans ((hbX.block _ HV.out.2.2.2.1).trans HV.out.2.2.1)
      have hT := HT.out
      cases ho : oneL (s.data.toList.drop i) with
      | none =>
        rw [ho] at hq hT
        obtain rfl := hq
        exact ⟨rfl, hT _ _ ⟨hg3, rfl⟩⟩
      | some y =>
        obtain ⟨kk, vv, mm⟩ := y
        rw [ho] at hq hT
        obtain ⟨rfl, hS⟩ := hq
        have p0 := box_cell (i := 0) hx2 rfl
        have p1 := box_cell (i := 1) hx2 rfl
        have p2 := box_cell (i := 2) hx2 rfl
        have p3 := box_cell (i := 3) hx2 rfl
        have pf := fun j => box_free (i := j) hx2
        have HS2 : Hid (Sc w2 sb s (i + mm) ∧ w.grownBy w2 (some sb)) := ⟨hS, hg3⟩
        have HT2 := Hid.out (p := Hid _) hT
        clear hx2 hS hg3 hT hg2 hX hbX ho
        go_wp2
        refine bodyPost_ret (v := .agg #[.int .i64 kk, .int .i64 vv, .int .i64 i, .string (s.extract i (i + mm))]) (by simp [results, Tryd.results11, go_sem, p0, p1, p2, p3]) rfl (HT2.out _ _ ⟨?_, rfl, ?_⟩)
        · exact grown_high (grown_high (grown_high (grown_high HS2.out.2 (Nat.le_refl _) _) (Nat.le_refl _) _) (Nat.le_refl _) _) (Nat.le_refl _) _
        · exact (((HS2.out.1.far HV.out.2.2.2.2 _).far HV.out.2.2.2.2 _).far HV.out.2.2.2.2 _).far HV.out.2.2.2.2 _
    | false =>
      go_enter Tryd.func11, Tryd.ntmps11
      go_wp2_with (first | (go_at_call 21; refine (ask_yes sb s i hi hc _ HA.out.2.1).mono ?_; rintro e w' ⟨rfl, m, rfl⟩))
      rw [HVE.out]
      have h0 := HV.out.2.1.c0
      have h1 := HV.out.2.1.c1
      go_quiet (fail)
      clear h0 h1
      go_wp2_with (first | (go_at_call 22; refine (plet_any s[i] _).mono ?_; rintro e w' ⟨rfl, rfl⟩; rw [hl]) | (go_at_call 24; refine (pdig_any s[i] _).mono ?_; rintro e w' ⟨rfl, rfl⟩; rw [hd]))
      obtain ⟨X, hX⟩ : ∃ X, X = V.drewN (m + nq) := ⟨_, rfl⟩
      have hbX : Below V.heap.size V X := by rw [hX]; exact below_drewN (Below.refl _ _)
      try rw [World.drewN_drewN]
      rw [← hX]
      refine (sign_any sb s hs i hi hl hd X (HV.out.2.1.below hbX) (HEN.out.below hbX)).mono ?_
      rintro e w2 ⟨hg2, hq⟩
      have hg3 : w.grownBy w2 (some sb) := grown_then (grown_of_below HV.out.1 _) (grown_then (grown_of_below hbX _) hg2)
      have hx2 : w2.heap[w.heap.size]? = some (.cells #[.int .i64 0, .int .i64 0, .int .i64 0, .string ⟨#[]⟩] 29) := (hg2.block _ (Nat.lt_of_lt_of_le HV.out.2.2.2.1 hbX.size) (by simp; exact HV.out.2.2.2.2)).trans ((hbX.block _ HV.out.2.2.2.1).trans HV.out.2.2.1)
      have hT := HT.out
      cases ho : oneL (s.data.toList.drop i) with
      | none =>
        rw [ho] at hq hT
        obtain rfl := hq
        exact ⟨rfl, hT _ _ ⟨hg3, rfl⟩⟩
      | some y =>
        obtain ⟨kk, vv, mm⟩ := y
        rw [ho] at hq hT
        obtain ⟨rfl, hS⟩ := hq
        have p0 := box_cell (i := 0) hx2 rfl
        have p1 := box_cell (i := 1) hx2 rfl
        have p2 := box_cell (i := 2) hx2 rfl
        have p3 := box_cell (i := 3) hx2 rfl
        have pf := fun j => box_free (i := j) hx2
        have HS2 : Hid (Sc w2 sb s (i + mm) ∧ w.grownBy w2 (some sb)) := ⟨hS, hg3⟩
        have HT2 := Hid.out (p := Hid _) hT
        clear hx2 hS hg3 hT hg2 hX hbX ho
        go_wp2
        refine bodyPost_ret (v := .agg #[.int .i64 kk, .int .i64 vv, .int .i64 i, .string (s.extract i (i + mm))]) (by simp [results, Tryd.results11, go_sem, p0, p1, p2, p3]) rfl (HT2.out _ _ ⟨?_, rfl, ?_⟩)
        · exact grown_high (grown_high (grown_high (grown_high HS2.out.2 (Nat.le_refl _) _) (Nat.le_refl _) _) (Nat.le_refl _) _) (Nat.le_refl _) _
        · exact (((HS2.out.1.far HV.out.2.2.2.2 _).far HV.out.2.2.2.2 _).far HV.out.2.2.2.2 _).far HV.out.2.2.2.2 _

end Go.Proofs.YtmodiekhiebjoadDoor
