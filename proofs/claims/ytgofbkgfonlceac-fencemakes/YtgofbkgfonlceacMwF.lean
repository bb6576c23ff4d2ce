/-
  Where something may wait: small functions of the program; spots in memory.
-/
import Derived.Test.YtgofbkgfonlceacMwP
import Derived.Test.YtgofbkgfonlceacFPut
import Derived.Maps.Own
import Derived.Maps.OwnSet
import Derived.DeepKeys4
namespace Go.Proofs.Ytgofbkgfonlceac
open Go.RowKit

theorem awaits_any (w : World) (op : Int) : Calls Try.prog 53 #[.int .i64 op] w fun e w' => e = .returned (.bool (awO op)) ∧ w' = w := by
  unfold awO
  by_cases h1 : op = 12
  · subst h1
    go_enter Try.func53, Try.ntmps53
    go_wp2
    go_ret
    exact ⟨rfl, rfl⟩
  · have h1' : (op == 12) = false := by simpa using h1
    by_cases h2 : op = 13
    · subst h2
      go_enter Try.func53, Try.ntmps53
      go_wp2
      go_ret
      exact ⟨rfl, rfl⟩
    · have h2' : (op == 13) = false := by simpa using h2
      by_cases h3 : op = 17
      · subst h3
        go_enter Try.func53, Try.ntmps53
        go_wp2
        go_ret
        exact ⟨rfl, rfl⟩
      · have h3' : (op == 17) = false := by simpa using h3
        rw [decide_eq_false h1, decide_eq_false h2, decide_eq_false h3]
        go_enter Try.func53, Try.ntmps53
        go_wp2
        go_ret
        exact ⟨rfl, rfl⟩
theorem behind_any (w : World) (op : Int) (ah : Bool) : Calls Try.prog 40 #[.int .i64 op, .bool ah] w fun e w' => e = .returned (.bool (wbO op ah)) ∧ w' = w := by
  unfold wbO
  obtain ⟨a, ha⟩ : ∃ a, wtO op = a := ⟨_, rfl⟩
  obtain ⟨b, hb⟩ : ∃ b, awO op = b := ⟨_, rfl⟩
  have HA : Hid (∀ V, Calls Try.prog 21 #[.int .i64 op] V fun e w' => e = .returned (.bool a) ∧ w' = V) := fun V => by rw [← ha]; exact letsWait_any V op
  have HB : Hid (∀ V, Calls Try.prog 53 #[.int .i64 op] V fun e w' => e = .returned (.bool b) ∧ w' = V) := fun V => by rw [← hb]; exact awaits_any V op
  rw [ha, hb]
  clear ha hb
  cases a <;> cases ah <;> cases b
  all_goals
    go_enter Try.func40, Try.ntmps40
    go_wp2_with (first | (go_at_call 21; refine Calls.mono (HA.out _) ?_; rintro e w1 ⟨rfl, rfl⟩) | (go_at_call 53; refine Calls.mono (HB.out _) ?_; rintro e w1 ⟨rfl, rfl⟩))
    go_ret
    exact ⟨rfl, rfl⟩
/-- Where a thread can go on. -/
theorem next_any (w : World) (op a b c : Int) (i : Nat) (h14 : op = 14 → 0 ≤ a) (h15 : op = 15 → 0 ≤ b) (hi : i ≤ 1000000) :
    Calls Try.prog 39 #[ints4 op a b c, .int .i64 i] w fun e w' => ∃ g cap, e = .returned (.slice (some ⟨g, 0, none⟩) (nextO op a b i).length cap) ∧ SIs w' (some ⟨g, 0, none⟩) ((nextO op a b i).map fun (j : Nat) => (j : Int)) ∧ Below w.heap.size w w' ∧ w.heap.size ≤ g := by
  have hb : ∀ o, Below w.heap.size w (w.alloc o) := fun o => (Below.refl _ _).alloc (Nat.le_refl _) _
  have hs : ∀ (V : World) (l : List Int) g, V.heap[g]? = some (.cells (intsV l).toArray 3) → SIs V (some ⟨g, 0, none⟩) l := fun V l g h k hk => by
    refine ⟨g, 0, rfl, box_cell h ?_⟩
    rw [Nat.zero_add]
    simpa using intsV_at hk
  have HS := Hid.out (p := Hid _) hs
  have HB : Hid (∀ o o', Below w.heap.size w ((w.alloc o).alloc o')) := fun o o' => (hb o).alloc (by simp) _
  unfold nextO
  clear hs hb
  by_cases e14 : op = 14
  · subst e14
    rw [if_pos rfl]
    obtain ⟨q, rfl⟩ : ∃ q : Nat, a = q := ⟨a.toNat, by have := h14 rfl; omega⟩
    rw [Int.toNat_natCast]
    clear h14 h15
    go_enter Try.func39, Try.ntmps39
    go_wp2
    go_ret
    refine ⟨_, _, rfl, ?_, HB.out _ _, ?_⟩
    · exact HS.out _ [(q : Int)] _ (by have := heap_alloc_new (w.alloc (.cells #[.int .i64 14, .int .i64 q, .int .i64 b, .int .i64 c] 52)) (.cells #[.int .i64 q] 3); simpa [intsV] using this)
    · simp
  · have e14' : (op == 14) = false := by simpa using e14
    rw [if_neg e14]
    by_cases e15 : op = 15
    · subst e15
      rw [if_pos rfl]
      obtain ⟨q, rfl⟩ : ∃ q : Nat, b = q := ⟨b.toNat, by have := h15 rfl; omega⟩
      rw [Int.toNat_natCast]
      clear h14 h15
      go_enter Try.func39, Try.ntmps39
      go_wp2
      go_ret
      refine ⟨_, _, rfl, ?_, HB.out _ _, ?_⟩
      · have := heap_alloc_new (w.alloc (.cells #[.int .i64 15, .int .i64 a, .int .i64 q, .int .i64 c] 52)) (.cells #[.int .i64 ((i : Int) + 1), .int .i64 q] 3)
        exact HS.out _ [((i + 1 : Nat) : Int), (q : Int)] _ (by simpa [intsV] using this)
      · simp
    · have e15' : (op == 15) = false := by simpa using e15
      rw [if_neg e15]
      clear h14 h15
      go_enter Try.func39, Try.ntmps39
      go_wp2
      go_ret
      refine ⟨_, _, rfl, ?_, HB.out _ _, ?_⟩
      · have := heap_alloc_new (w.alloc (.cells #[.int .i64 op, .int .i64 a, .int .i64 b, .int .i64 c] 52)) (.cells #[.int .i64 ((i : Int) + 1)] 3)
        exact HS.out _ [((i + 1 : Nat) : Int)] _ (by simpa [intsV] using this)
      · simp

/-! Spots as keys of a map. -/
abbrev spV (s : Sp) : Value := .agg #[.int .i64 (s.1 : Int), .bool s.2]
theorem spLaid : laidOutB Try.prog = true := by kernel_rfl
theorem cellsSp : Try.prog.cellsOf 77 = 2 := by kernel_rfl
theorem cellsInt : Try.prog.cellsOf 3 = 1 := by kernel_rfl
theorem cellsBool : Try.prog.cellsOf 4 = 1 := by kernel_rfl
theorem spKeyT : Try.prog.keyType 77 = true := by kernel_rfl
theorem typesN : ∃ m, Try.prog.types.size = m + 1 := ⟨Try.prog.types.size - 1, by kernel_rfl⟩
theorem spKeyed : Maps.Keyed Try.prog 77 := Maps.Keyed.of_law (deep_law_laid spLaid (m := 3) (by decide) (of_decide_eq_true (by kernel_rfl)) (by kernel_rfl) (by kernel_rfl))
def spL (s : Sp) : Lit := .string (keyBytes [.int .i64 (s.1 : Int), .bool s.2])
theorem spKey {s : Sp} (h : (Lit.int .i64 (s.1 : Int)).wf = true) : keyOf Try.prog 77 (spV s) = some (spL s) := by
  obtain ⟨m, hm⟩ := typesN
  unfold keyOf
  have hu := Try.underlying77
  have hf : (spV s).formed Try.prog 77 = true := by
    unfold Value.formed
    rw [hu, cellsSp]
    rfl
  rw [hu]
  simp only [spKeyT, hf, Bool.and_self, if_true]
  rw [hm]
  have h1 : Try.prog.keyLits (m + 1) 3 [.int .i64 (s.1 : Int)] = some [.int .i64 (s.1 : Int)] := by
    unfold Program.keyLits
    rw [Try.underlying3]
    simp [h]
  have h2 : Try.prog.keyLits (m + 1) 4 [.bool s.2] = some [.bool s.2] := by
    unfold Program.keyLits
    rw [Try.underlying4]
  have hl : Try.prog.keyLits (m + 1 + 1) 77 (spV s).cells.toList = some [.int .i64 (s.1 : Int), .bool s.2] := by
    show Try.prog.keyLits (m + 1 + 1) 77 [.int .i64 (s.1 : Int), .bool s.2] = _
    unfold Program.keyLits
    rw [hu]
    simp only [cellsSp]
    rw [if_pos ⟨rfl, by kernel_rfl⟩]
    simp [cellsInt, cellsBool, h1, h2]
  rw [hl]
  rfl
theorem spL_inj {a b : Sp} (ha : (Lit.int .i64 (a.1 : Int)).wf = true) (hb : (Lit.int .i64 (b.1 : Int)).wf = true) (h : spL a = spL b) : a = b := by
  have h1 := spKey ha
  have h2 := spKey hb
  rw [← h] at h2
  have := spKeyed.inj h1 h2
  simp only [Value.agg.injEq, Array.mk.injEq, List.cons.injEq, Value.int.injEq, Value.bool.injEq, true_and, and_true] at this
  obtain ⟨a1, a2⟩ := a
  obtain ⟨b1, b2⟩ := b
  simp only at this
  rw [this.2, show a1 = b1 by omega]
theorem wf_nat {n : Nat} (h : n ≤ 1000000) : (Lit.int .i64 (n : Int)).wf = true := by
  have h1 : -9223372036854775808 ≤ (n : Int) ∧ (n : Int) ≤ 9223372036854775807 := ⟨by omega, by omega⟩
  have e : IntKind.i64.min = -9223372036854775808 := rfl
  simpa [Lit.wf, e] using h1

end Go.Proofs.Ytgofbkgfonlceac
