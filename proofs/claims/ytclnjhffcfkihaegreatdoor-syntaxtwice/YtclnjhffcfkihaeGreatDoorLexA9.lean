/-
  The program's one token.
  What the program's Scan does with what is given up: the deferred closure.
-/
import Derived.Test.YtclnjhffcfkihaeGreatDoorLexA8
import Derived.Test.YtclnjhffcfkihaeGreatDoorPlain
import Derived.Recover
namespace Go.Proofs.YtclnjhffcfkihaeGreatDoor
section
open Go.RowKit

set_option maxRecDepth 100000 in
set_option maxHeartbeats 1600000 in
theorem token_bad (sb : Nat) (s : ByteArray) (i : Nat) (hi : i < s.size) (hc : canBe s[i] = false) (w : World) (h : Sc w sb s i) :
    Calls Tryz.prog 53 #[.pointer (some ⟨sb, 0, none⟩)] w fun e w' => e = .panicked (badB i) ∧ w.grownBy w' (some sb) := by
  have hA : Below w.heap.size w (w.alloc (.cells #[.int .i64 0, .int .i64 0, .int .i64 0, .string ⟨#[]⟩] 66)) := (Below.refl _ _).alloc (Nat.le_refl _) _
  have hSA := h.below hA
  go_enter Tryz.func53, Tryz.ntmps53
  go_wp2_with (first | (go_at_call 81; refine (ask_no sb s i hi hc _ hSA).mono ?_; rintro e w' ⟨rfl, hb⟩))
  exact ⟨rfl, rfl, grown_then (grown_of_below hA _) (grown_of_below hb _)⟩

set_option maxRecDepth 100000 in
set_option maxHeartbeats 1600000 in
theorem token_any (sb : Nat) (s : ByteArray) (hs : s.size ≤ 4000) (i : Nat) (hi : i < s.size) (hc : canBe s[i] = true) (w : World) (h : Sc w sb s i) (hE : LEnv w) (hsb : 6 ≤ sb) :
    Calls Tryz.prog 53 #[.pointer (some ⟨sb, 0, none⟩)] w fun e w' => TokQ w sb s i e w' := by
  have hA : Below w.heap.size w (w.alloc (.cells #[.int .i64 0, .int .i64 0, .int .i64 0, .string ⟨#[]⟩] 66)) := (Below.refl _ _).alloc (Nat.le_refl _) _
  have HA : Hid (Below w.heap.size w (w.alloc (.cells #[.int .i64 0, .int .i64 0, .int .i64 0, .string ⟨#[]⟩] 66)) ∧ Sc (w.alloc (.cells #[.int .i64 0, .int .i64 0, .int .i64 0, .string ⟨#[]⟩] 66)) sb s i ∧ True) := ⟨hA, h.below hA, trivial⟩
  obtain ⟨V, hV⟩ : ∃ V, w.alloc (.cells #[.int .i64 0, .int .i64 0, .int .i64 0, .string ⟨#[]⟩] 66) = V := ⟨_, rfl⟩
  have HVE := Hid.out (p := Hid _) hV
  have HV : Hid (Below w.heap.size w V ∧ Sc V sb s i ∧ V.heap[w.heap.size]? = some (.cells #[.int .i64 0, .int .i64 0, .int .i64 0, .string ⟨#[]⟩] 66) ∧ w.heap.size < V.heap.size ∧ w.heap.size ≠ sb) := by
    show _ ∧ _
    rw [← hV]
    exact ⟨hA, h.below hA, heap_alloc_new _ _, by simp, by have := h.lt; omega⟩
  have HEN : Hid (LEnv V) := by
    show LEnv V
    rw [← hV]; exact hE.below hA
  have HT : Hid (∀ e w', (w.grownBy w' (some sb) ∧ match oneL (s.data.toList.drop i) with
    | none => e = .panicked (badT i)
    | some (k, v, m) => e = .returned (.agg #[.int .i64 k, .int .i64 v, .int .i64 i, .string (s.extract i (i + m))]) ∧ Sc w' sb s (i + m)) → TokQ w sb s i e w') := fun _ _ h => h
  clear hA hV hE h
  cases hl : isLet s[i] with
  | true =>
    go_enter Tryz.func53, Tryz.ntmps53
    go_wp2_with (first | (go_at_call 81; refine (ask_yes sb s i hi hc _ HA.out.2.1).mono ?_; rintro e w' ⟨rfl, m, rfl⟩))
    rw [HVE.out]
    have h0 := HV.out.2.1.c0
    have h1 := HV.out.2.1.c1
    go_quiet (fail)
    clear h0 h1
    go_wp2_with (first | (go_at_call 82; refine (plet_any s[i] _).mono ?_; rintro e w' ⟨rfl, rfl⟩; rw [hl]))
    obtain ⟨X, hX⟩ : ∃ X, X = V.drewN (m + nq) := ⟨_, rfl⟩
    have hbX : Below V.heap.size V X := by rw [hX]; exact below_drewN (Below.refl _ _)
    try rw [World.drewN_drewN]
    rw [← hX]
    refine (lexName_any sb s hs i hi hl X (HV.out.2.1.below hbX)).mono ?_
    rintro e w2 ⟨hg2, hq⟩
    have hg3 : w.grownBy w2 (some sb) := grown_then (grown_of_below HV.out.1 _) (grown_then (grown_of_below hbX _) hg2)
    have hx2 : w2.heap[w.heap.size]? = some (.cells #[.int .i64 0, .int .i64 0, .int .i64 0, .string ⟨#[]⟩] 66) := (hg2.block _ (Nat.lt_of_lt_of_le HV.out.2.2.2.1 hbX.size) (by simp; exact HV.out.2.2.2.2)).trans ((hbX.block _ HV.out.2.2.2.1).trans HV.out.2.2.1)
    have hT := HT.out
    cases ho : oneL (s.data.toList.drop i) with
    | none =>
      rw [ho] at hq hT
      obtain rfl := hq
      exact ⟨rfl, hT _ _ ⟨hg3, rfl⟩⟩
    | some y =>
      obtain ⟨kk, vv, mm⟩ := y
      rw [ho] at hq hT
      obtain ⟨rfl, hS⟩ := hq
      have p0 := box_cell (i := 0) hx2 rfl
      have p1 := box_cell (i := 1) hx2 rfl
      have p2 := box_cell (i := 2) hx2 rfl
      have p3 := box_cell (i := 3) hx2 rfl
      have pf := fun j => box_free (i := j) hx2
      have HS2 : Hid (Sc w2 sb s (i + mm) ∧ w.grownBy w2 (some sb)) := ⟨hS, hg3⟩
      have HT2 := Hid.out (p := Hid _) hT
      clear hx2 hS hg3 hT hg2 hX hbX ho
      go_wp2
      refine bodyPost_ret (v := .agg #[.int .i64 kk, .int .i64 vv, .int .i64 i, .string (s.extract i (i + mm))]) (by simp [results, Tryz.results53, go_sem, p0, p1, p2, p3]) rfl (HT2.out _ _ ⟨?_, rfl, ?_⟩)
      · exact grown_high (grown_high (grown_high (grown_high HS2.out.2 (Nat.le_refl _) _) (Nat.le_refl _) _) (Nat.le_refl _) _) (Nat.le_refl _) _
      · exact (((HS2.out.1.far HV.out.2.2.2.2 _).far HV.out.2.2.2.2 _).far HV.out.2.2.2.2 _).far HV.out.2.2.2.2 _
  | false =>
    cases hd : isDig s[i] with
    | true =>
      go_enter Tryz.func53, Tryz.ntmps53
      go_wp2_with (first | (go_at_call 81; refine (ask_yes sb s i hi hc _ HA.out.2.1).mono ?_; rintro e w' ⟨rfl, m, rfl⟩))
      rw [HVE.out]
      have h0 := HV.out.2.1.c0
      have h1 := HV.out.2.1.c1
      go_quiet (fail)
      clear h0 h1
      go_wp2_with (first | (go_at_call 82; refine (plet_any s[i] _).mono ?_; rintro e w' ⟨rfl, rfl⟩; rw [hl]) | (go_at_call 84; refine (pdig_any s[i] _).mono ?_; rintro e w' ⟨rfl, rfl⟩; rw [hd]))
      obtain ⟨X, hX⟩ : ∃ X, X = V.drewN (m + nq) := ⟨_, rfl⟩
      have hbX : Below V.heap.size V X := by rw [hX]; exact below_drewN (Below.refl _ _)
      try rw [World.drewN_drewN]
      rw [← hX]
      refine (lexNumber_any sb s hs i hi hl hd X (HV.out.2.1.below hbX) (HEN.out.below hbX) hsb).mono ?_
      rintro e w2 ⟨hg2, hq⟩
      have hg3 : w.grownBy w2 (some sb) := grown_then (grown_of_below HV.out.1 _) (grown_then (grown_of_below hbX _) hg2)
      have hx2 : w2.heap[w.heap.size]? = some (.cells #[.int .i64 0, .int .i64 0, .int .i64 0, .string ⟨#[]⟩] 66) := (hg2.block _ (Nat.lt_of_lt_of_le HV.out.2.2.2.1 hbX.size) (by simp; exact HV.out.2.2.2.2)).trans ((hbX.block _ HV.out.2.2.2.1).trans HV.out.2.2.1)
      have hT := HT.out
      cases ho : oneL (s.data.toList.drop i) with
      | none =>
        rw [ho] at hq hT
        obtain rfl := hq
        exact ⟨rfl, hT _ _ ⟨hg3, rfl⟩⟩
      | some y =>
        obtain ⟨kk, vv, mm⟩ := y
        rw [ho] at hq hT
        obtain ⟨rfl, hS⟩ := hq
        have p0 := box_cell (i := 0) hx2 rfl
        have p1 := box_cell (i := 1) hx2 rfl
        have p2 := box_cell (i := 2) hx2 rfl
        have p3 := box_cell (i := 3) hx2 rfl
        have pf := fun j => box_free (i := j) hx2
        have HS2 : Hid (Sc w2 sb s (i + mm) ∧ w.grownBy w2 (some sb)) := ⟨hS, hg3⟩
        have HT2 := Hid.out (p := Hid _) hT
        clear hx2 hS hg3 hT hg2 hX hbX ho
        go_wp2
        refine bodyPost_ret (v := .agg #[.int .i64 kk, .int .i64 vv, .int .i64 i, .string (s.extract i (i + mm))]) (by simp [results, Tryz.results53, go_sem, p0, p1, p2, p3]) rfl (HT2.out _ _ ⟨?_, rfl, ?_⟩)
        · exact grown_high (grown_high (grown_high (grown_high HS2.out.2 (Nat.le_refl _) _) (Nat.le_refl _) _) (Nat.le_refl _) _) (Nat.le_refl _) _
        · exact (((HS2.out.1.far HV.out.2.2.2.2 _).far HV.out.2.2.2.2 _).far HV.out.2.2.2.2 _).far HV.out.2.2.2.2 _
    | false =>
      go_enter Tryz.func53, Tryz.ntmps53
      go_wp2_with (first | (go_at_call 81; refine (ask_yes sb s i hi hc _ HA.out.2.1).mono ?_; rintro e w' ⟨rfl, m, rfl⟩))
      rw [HVE.out]
      have h0 := HV.out.2.1.c0
      have h1 := HV.out.2.1.c1
      go_quiet (fail)
      clear h0 h1
      go_wp2_with (first | (go_at_call 82; refine (plet_any s[i] _).mono ?_; rintro e w' ⟨rfl, rfl⟩; rw [hl]) | (go_at_call 84; refine (pdig_any s[i] _).mono ?_; rintro e w' ⟨rfl, rfl⟩; rw [hd]))
      obtain ⟨X, hX⟩ : ∃ X, X = V.drewN (m + nq) := ⟨_, rfl⟩
      have hbX : Below V.heap.size V X := by rw [hX]; exact below_drewN (Below.refl _ _)
      try rw [World.drewN_drewN]
      rw [← hX]
      refine (lexSign_any sb s hs i hi hl hd X (HV.out.2.1.below hbX) (HEN.out.below hbX)).mono ?_
      rintro e w2 ⟨hg2, hq⟩
      have hg3 : w.grownBy w2 (some sb) := grown_then (grown_of_below HV.out.1 _) (grown_then (grown_of_below hbX _) hg2)
      have hx2 : w2.heap[w.heap.size]? = some (.cells #[.int .i64 0, .int .i64 0, .int .i64 0, .string ⟨#[]⟩] 66) := (hg2.block _ (Nat.lt_of_lt_of_le HV.out.2.2.2.1 hbX.size) (by simp; exact HV.out.2.2.2.2)).trans ((hbX.block _ HV.out.2.2.2.1).trans HV.out.2.2.1)
      have hT := HT.out
      cases ho : oneL (s.data.toList.drop i) with
      | none =>
        rw [ho] at hq hT
        obtain rfl := hq
        exact ⟨rfl, hT _ _ ⟨hg3, rfl⟩⟩
      | some y =>
        obtain ⟨kk, vv, mm⟩ := y
        rw [ho] at hq hT
        obtain ⟨rfl, hS⟩ := hq
        have p0 := box_cell (i := 0) hx2 rfl
        have p1 := box_cell (i := 1) hx2 rfl
        have p2 := box_cell (i := 2) hx2 rfl
        have p3 := box_cell (i := 3) hx2 rfl
        have pf := fun j => box_free (i := j) hx2
        have HS2 : Hid (Sc w2 sb s (i + mm) ∧ w.grownBy w2 (some sb)) := ⟨hS, hg3⟩
        have HT2 := Hid.out (p := Hid _) hT
        clear hx2 hS hg3 hT hg2 hX hbX ho
        go_wp2
        refine bodyPost_ret (v := .agg #[.int .i64 kk, .int .i64 vv, .int .i64 i, .string (s.extract i (i + mm))]) (by simp [results, Tryz.results53, go_sem, p0, p1, p2, p3]) rfl (HT2.out _ _ ⟨?_, rfl, ?_⟩)
        · exact grown_high (grown_high (grown_high (grown_high HS2.out.2 (Nat.le_refl _) _) (Nat.le_refl _) _) (Nat.le_refl _) _) (Nat.le_refl _) _
        · exact (((HS2.out.1.far HV.out.2.2.2.2 _).far HV.out.2.2.2.2 _).far HV.out.2.2.2.2 _).far HV.out.2.2.2.2 _
end

section
open Go.RowKit

section
variable {P : Program} {id d : Nat} {ty : TypeId} {pos : String} {y : Code} {Q : Exit → Act → List Frame → World → Prop} {a : Act} {c : Frame} {cs : List Frame} {w : World}
/-- A call of recover ahead of other code, in a frame that panics. -/
theorem wpS_recover {v : Value} {older : List PanicEntry} (hu : c.mode = .panicking ({ v := v, recovered := false } :: older))
    (h : y.wpS P Q (a.put (some d) v) ({ c with mode := .panicking ({ v := v, recovered := true } :: older) } :: cs) w) :
    (Code.seq (Code.region id #[{ dst := some d, op := .call { callee := .builtin .recover, args := #[], argTypes := #[] }, type := ty, pos := pos, after := #[], guard := none }] false) y).wpS P Q a (c :: cs) w := by
  apply wpS_seq
  apply wpS_region
  simp [wpOpsS, go_sem, recoverD, hu, Exit.thenS]
  exact h
/-- .. in one that returns. -/
theorem wpS_recover_no (hu : c.mode = .returning) (h : y.wpS P Q (a.put (some d) .nilIface) (c :: cs) w) :
    (Code.seq (Code.region id #[{ dst := some d, op := .call { callee := .builtin .recover, args := #[], argTypes := #[] }, type := ty, pos := pos, after := #[], guard := none }] false) y).wpS P Q a (c :: cs) w := by
  apply wpS_seq
  apply wpS_region
  simp [wpOpsS, go_sem, recoverD, hu, Exit.thenS]
  exact h
end

set_option maxRecDepth 100000 in
set_option maxHeartbeats 400000 in
theorem catch_idle (p q : Addr) (w : World) :
    CallsD Tryz.prog 51 #[.pointer (some p), .pointer (some q)] .returning w fun e u' w' => e = .returned (.tuple #[]) ∧ u' = .returning ∧ w' = w := by
  refine callsD_of_wpS Tryz.func51 rfl fun c₀ cs hu => ?_
  simp only [Tryz.ntmps51, List.size_toArray, List.length_cons, List.length_nil, Nat.reduceAdd, Nat.reduceSub, Array.replicate_succ, Array.replicate_zero, List.push_toArray, List.append_toArray, List.nil_append, List.cons_append]
  refine wpS_recover_no hu ?_
  refine wpS_of_wp ?_
  simp only [Act.put, Array.setIfInBounds, List.size_toArray, List.length_cons, List.length_nil, Nat.reduceAdd, Nat.reduceLT, dite_true, List.set_toArray, List.set_cons_succ, List.set_cons_zero]
  go_wp2_with fail
  exact ⟨rfl, .returning, by cases c₀; simp_all, _, results_none rfl _ _ _, rfl, rfl, rfl⟩

theorem ta_byte (k : Nat) (w : World) : (Instr.typeAssert (.iface 86 (.int .i64 (k : Int))) 20 86 true).run Tryz.prog w = .ok (.tuple #[.int .i64 (k : Int), .bool true]) w := by kernel_rfl
theorem ta_other (k : Nat) (w : World) : (Instr.typeAssert (.iface 87 (.int .i64 (k : Int))) 20 86 true).run Tryz.prog w = .ok (.tuple #[.int .i64 0, .bool false]) w := by kernel_rfl
theorem ta_token (k : Nat) (w : World) : (Instr.typeAssert (.iface 87 (.int .i64 (k : Int))) 20 87 true).run Tryz.prog w = .ok (.tuple #[.int .i64 (k : Int), .bool true]) w := by kernel_rfl

/-- Two variables: a slice, and a fault. -/
structure Vars (w : World) (tb fb : Nat) (v a b c : Value) : Prop where
  t0 : w.cell? ⟨tb, 0, none⟩ = some v
  f0 : w.cell? ⟨fb, 0, none⟩ = some a
  f1 : w.cell? ⟨fb, 1, none⟩ = some b
  f2 : w.cell? ⟨fb, 2, none⟩ = some c
  tz : w.frozen? ⟨tb, 0, none⟩ = false
  fz : ∀ i, w.frozen? ⟨fb, i, none⟩ = false
  ne : tb ≠ fb

set_option maxRecDepth 100000 in
set_option maxHeartbeats 800000 in
theorem catch_byte (tb fb k : Nat) (w : World) (v a b c : Value) (h : Vars w tb fb v a b c) :
    CallsD Tryz.prog 51 #[.pointer (some ⟨tb, 0, none⟩), .pointer (some ⟨fb, 0, none⟩)] (.panicking (badB k)) w fun e u' w' => e = .returned (.tuple #[]) ∧ u' = .panicking [{ v := .iface 86 (.int .i64 (k : Int)), recovered := true }] ∧ w' = (((w.setCell ⟨tb, 0, none⟩ nilV).setCell ⟨fb, 0, none⟩ (.int .i64 4)).setCell ⟨fb, 1, none⟩ (.int .i64 0)).setCell ⟨fb, 2, none⟩ (.int .i64 (k : Int)) := by
  have ta := ta_byte k
  have t0 := h.t0
  have f0 := h.f0
  have f1 := h.f1
  have f2 := h.f2
  have tz := h.tz
  have fz := h.fz
  have hn1 : ¬ tb = fb := h.ne
  have hn2 : ¬ fb = tb := fun e => h.ne e.symm
  refine callsD_of_wpS Tryz.func51 rfl fun c₀ cs hu => ?_
  simp only [Tryz.ntmps51, List.size_toArray, List.length_cons, List.length_nil, Nat.reduceAdd, Nat.reduceSub, Array.replicate_succ, Array.replicate_zero, List.push_toArray, List.append_toArray, List.nil_append, List.cons_append]
  refine wpS_recover hu ?_
  refine wpS_of_wp ?_
  simp only [Act.put, Array.setIfInBounds, List.size_toArray, List.length_cons, List.length_nil, Nat.reduceAdd, Nat.reduceLT, dite_true, List.set_toArray, List.set_cons_succ, List.set_cons_zero]
  go_wp2_with fail
  exact ⟨rfl, _, rfl, _, results_none rfl _ _ _, rfl, rfl, rfl⟩

set_option maxRecDepth 100000 in
set_option maxHeartbeats 800000 in
theorem catch_token (tb fb k : Nat) (w : World) (v a b c : Value) (h : Vars w tb fb v a b c) :
    CallsD Tryz.prog 51 #[.pointer (some ⟨tb, 0, none⟩), .pointer (some ⟨fb, 0, none⟩)] (.panicking (badT k)) w fun e u' w' => e = .returned (.tuple #[]) ∧ u' = .panicking [{ v := .iface 87 (.int .i64 (k : Int)), recovered := true }] ∧ w' = (((w.setCell ⟨tb, 0, none⟩ nilV).setCell ⟨fb, 0, none⟩ (.int .i64 5)).setCell ⟨fb, 1, none⟩ (.int .i64 0)).setCell ⟨fb, 2, none⟩ (.int .i64 (k : Int)) := by
  have ta := ta_other k
  have ta2 := ta_token k
  have t0 := h.t0
  have f0 := h.f0
  have f1 := h.f1
  have f2 := h.f2
  have tz := h.tz
  have fz := h.fz
  have hn1 : ¬ tb = fb := h.ne
  have hn2 : ¬ fb = tb := fun e => h.ne e.symm
  refine callsD_of_wpS Tryz.func51 rfl fun c₀ cs hu => ?_
  simp only [Tryz.ntmps51, List.size_toArray, List.length_cons, List.length_nil, Nat.reduceAdd, Nat.reduceSub, Array.replicate_succ, Array.replicate_zero, List.push_toArray, List.append_toArray, List.nil_append, List.cons_append]
  refine wpS_recover hu ?_
  refine wpS_of_wp ?_
  simp only [Act.put, Array.setIfInBounds, List.size_toArray, List.length_cons, List.length_nil, Nat.reduceAdd, Nat.reduceLT, dite_true, List.set_toArray, List.set_cons_succ, List.set_cons_zero]
  go_wp2_with fail
  exact ⟨rfl, _, rfl, _, results_none rfl _ _ _, rfl, rfl, rfl⟩
end

end Go.Proofs.YtclnjhffcfkihaeGreatDoor
