/-
  Every text is read, or something is told of it: statements, programs.
  There are no more nodes than tokens.
-/
import Derived.Test.YtclnjhffcfkihaeGreatDoorSynX
namespace Go.Proofs.YtclnjhffcfkihaeGreatDoor
section
section
variable {e : Int}
theorem et_len {β : Type} {n d : Nat} {s : List UInt8} {l r : List Tok} {f : Nd → List Tok → Option (TRes β)} {y : β} (h : exprThen e n d s l f = some (.ok (y, r))) : ∃ a q, f a q = some (.ok (y, r)) ∧ q.length < l.length := by
  unfold exprThen at h
  obtain ⟨a, q, ha, h⟩ := andT_ok h
  obtain ⟨q2, hq, h⟩ := thenT_ok h
  have k1 := (expr_len n).1 _ _ _ _ _ ha
  have k2 := take_len hq
  exact ⟨a, q2, h, by omega⟩
theorem tail_le (l : List Tok) : l.tail.length ≤ l.length := by cases l <;> simp
theorem assign_len {n d : Nat} {l r : List Tok} {x : Nd} (h : assignF e n d l = some (.ok (x, r))) : r.length < l.length := by
  unfold assignF at h
  obtain ⟨s, q, hs, h⟩ := nameThen_ok h
  obtain ⟨q1, hq1, h⟩ := thenT_ok h
  have k1 := name_len hs
  have k2 := take_len hq1
  split at h
  · obtain ⟨q2, hq2, h⟩ := thenT_ok h
    obtain ⟨q3, hq3, h⟩ := thenT_ok h
    obtain ⟨s2, q4, hs4, h⟩ := nameThen_ok h
    obtain ⟨q5, hq5, h⟩ := thenT_ok h
    obtain ⟨a, q6, h, k6⟩ := et_len h
    obtain ⟨b, q7, h, k7⟩ := et_len h
    obtain ⟨q8, hq8, h⟩ := thenT_ok h
    obtain ⟨_, rfl⟩ := ok_inj h
    have := take_len hq2
    have := open_len hq3
    have := name_len hs4
    have := take_len hq5
    have := take_len hq8
    omega
  · obtain ⟨a, q6, h, k6⟩ := et_len h
    obtain ⟨_, rfl⟩ := ok_inj h
    omega
theorem plain_len {n d : Nat} {l r : List Tok} {x : Nd} (h : plainF e n d l = some (.ok (x, r))) : r.length < l.length := by
  have kt := tail_le l
  unfold plainF at h
  split at h
  · obtain ⟨s, q, hs, h⟩ := nameThen_ok h
    obtain ⟨q1, hq1, h⟩ := thenT_ok h
    obtain ⟨a, q6, h, k6⟩ := et_len h
    obtain ⟨_, rfl⟩ := ok_inj h
    have k1 := name_len hs
    have k2 := take_len hq1
    omega
  · split at h
    · obtain ⟨a, q, ha, h⟩ := andT_ok h
      obtain ⟨q1, hq1, h⟩ := thenT_ok h
      obtain ⟨_, rfl⟩ := ok_inj h
      have k1 := (expr_len n).2.2.2 _ _ _ _ ha
      have k2 := take_len hq1
      omega
    · split at h
      · obtain ⟨q1, hq1, h⟩ := thenT_ok h
        obtain ⟨s, q, hs, h⟩ := nameThen_ok h
        obtain ⟨q2, hq2, h⟩ := thenT_ok h
        obtain ⟨q3, hq3, h⟩ := thenT_ok h
        obtain ⟨_, rfl⟩ := ok_inj h
        have k1 := open_len hq1
        have k2 := name_len hs
        have k3 := take_len hq2
        have k4 := take_len hq3
        omega
      · split at h
        · obtain ⟨q1, hq1, h⟩ := thenT_ok h
          obtain ⟨_, rfl⟩ := ok_inj h
          have k1 := take_len hq1
          omega
        · exact assign_len h
theorem stmt_len : ∀ n, (∀ d l x r, stmtF e n d l = some (.ok (x, r)) → r.length < l.length) ∧ (∀ d l x r, blockF e n d l = some (.ok (x, r)) → r.length < l.length) ∧ ∀ d ks l x r, stmtsF e n d ks l = some (.ok (x, r)) → r.length ≤ l.length
  | 0 => ⟨fun _ _ _ _ h => by (rw [stmtF] at h; cases h), fun _ _ _ _ h => by (rw [blockF] at h; cases h), fun _ _ _ _ _ h => by (rw [stmtsF] at h; cases h)⟩
  | n + 1 => by
    obtain ⟨h1, h2, h3⟩ := stmt_len n
    refine ⟨fun d l x r h => ?_, fun d l x r h => ?_, fun d ks l x r h => ?_⟩
    · have kt := tail_le l
      rw [stmtF] at h
      split at h
      · obtain ⟨a, q, ha, h⟩ := andT_ok h
        obtain ⟨b, q1, hb, h⟩ := andT_ok h
        have k1 := (expr_len n).2.2.2 _ _ _ _ ha
        have k2 := h2 _ _ _ _ hb
        split at h
        · obtain ⟨c, q2, hc, h⟩ := andT_ok h
          obtain ⟨_, rfl⟩ := ok_inj h
          have k3 := h2 _ _ _ _ hc
          have k4 := tail_le q1
          omega
        · obtain ⟨_, rfl⟩ := ok_inj h
          omega
      · split at h
        · obtain ⟨a, q, ha, h⟩ := andT_ok h
          obtain ⟨b, q1, hb, h⟩ := andT_ok h
          obtain ⟨_, rfl⟩ := ok_inj h
          have k1 := (expr_len n).2.2.2 _ _ _ _ ha
          have k2 := h2 _ _ _ _ hb
          omega
        · exact plain_len h
    · rw [blockF] at h
      obtain ⟨q, hq, h⟩ := thenT_ok h
      obtain ⟨a, q1, ha, h⟩ := andT_ok h
      obtain ⟨q2, hq2, h⟩ := thenT_ok h
      obtain ⟨_, rfl⟩ := ok_inj h
      have k1 := open_len hq
      have k2 := h3 _ _ _ _ _ ha
      have k3 := take_len hq2
      omega
    · rw [stmtsF] at h
      split at h
      · obtain ⟨_, rfl⟩ := ok_inj h
        exact Nat.le_refl _
      · obtain ⟨a, q1, ha, h⟩ := andT_ok h
        have k1 := h1 _ _ _ _ ha
        have k2 := h3 _ _ _ _ _ h
        omega
theorem stmt_tot : ∀ (N : Nat) (l : List Tok), l.length ≤ N → ∀ d, (Tot fun n => blockF e n d l) ∧ (Tot fun n => stmtF e n d l) ∧ ∀ ks, Tot fun n => stmtsF e n d ks l := by
  intro N
  induction N using Nat.strongRecOn with
  | ind N ih =>
    intro l hl d
    have bl : ∀ d, Tot fun n => blockF e n d l := by
      intro d
      apply tot_up
      simp only [blockF]
      refine tot_then fun r hr => ?_
      have k0 := open_len hr
      exact tot_and (ss_up (d + 1) [] r) (fun n a l => Le.refl _) ((ih (N - 1) (by omega) r (by omega) (d + 1)).2.2 []) fun n a l _ => tot_then fun _ _ => tot_is _
    have st : Tot fun n => stmtF e n d l := by
      have kt := tail_le l
      apply tot_up
      simp only [stmtF]
      by_cases h1 : wordOf l = wIf
      · simp only [h1, if_true]
        refine tot_and (he_up l.tail) (fun n a l => andT_le (bl_up d l n) fun _ _ => ite_le (andT_le (bl_up d _ n) fun _ _ => Le.refl _) (Le.refl _)) (he_tot d l.tail) fun n a q hq => ?_
        have k1 := (expr_len n).2.2.2 _ _ _ _ hq
        refine tot_and (bl_up d q) (fun n a l => ite_le (andT_le (bl_up d _ n) fun _ _ => Le.refl _) (Le.refl _)) (ih (N - 1) (by omega) q (by omega) d).1 fun n b q2 hq2 => ?_
        have k2 := (stmt_len n).2.1 _ _ _ _ hq2
        by_cases h2 : isTok wElse q2 = true
        · simp only [h2, if_true]
          have k3 := tail_le q2
          exact tot_and (bl_up d q2.tail) (fun n a l => Le.refl _) (ih (N - 1) (by omega) q2.tail (by omega) d).1 fun n c q3 _ => tot_is _
        · simp only [h2]
          exact tot_is _
      · simp only [h1, if_false]
        by_cases h2 : wordOf l = wWhile
        · simp only [h2, if_true]
          refine tot_and (he_up l.tail) (fun n a l => andT_le (bl_up d l n) fun _ _ => Le.refl _) (he_tot d l.tail) fun n a q hq => ?_
          have k1 := (expr_len n).2.2.2 _ _ _ _ hq
          exact tot_and (bl_up d q) (fun n a l => Le.refl _) (ih (N - 1) (by omega) q (by omega) d).1 fun n b q2 hq2 => tot_is _
        · simp only [h2, if_false]
          exact plain_tot d l
    refine ⟨bl d, st, fun ks => ?_⟩
    apply tot_up
    simp only [stmtsF]
    by_cases h1 : isTok [125] l = true
    · simp only [h1, if_true]
      exact tot_is _
    · simp only [h1]
      refine tot_and (st_up d l) (fun n a l => ss_up d _ l n) st fun n a q hq => ?_
      have k1 := (stmt_len n).1 _ _ _ _ hq
      exact (ih (N - 1) (by omega) q (by omega) d).2.2 _
theorem threads_tot : ∀ (N : Nat) (l : List Tok), l.length ≤ N → ∀ ks, Tot fun n => threadsF e n ks l := by
  intro N
  induction N using Nat.strongRecOn with
  | ind N ih =>
    intro l hl ks
    apply tot_up
    simp only [threadsF]
    by_cases h : l = []
    · simp only [h, if_true]
      exact tot_is _
    · simp only [h, if_false]
      refine tot_then fun r hr => ?_
      have k0 := take_len hr
      refine tot_and (bl_up 0 r) (fun n a q => threads_le e n _ q) (stmt_tot r.length r (Nat.le_refl _) 0).1 fun n b q hq => ?_
      have k1 := (stmt_len n).2.1 _ _ _ _ hq
      exact ih (N - 1) (by omega) q (by omega) _
end
end

section
section
variable {e : Int}
theorem prim_size {x : Nd} {l r : List Tok} (h : primT e l = .ok (x, r)) : ndSize x + r.length ≤ l.length := by
  have hl := prim_len h
  have hs : ndSize x = 1 := by
    unfold primT at h
    split at h
    · have h1 := Except.ok.inj h
      simp only [Prod.mk.injEq] at h1
      rw [← h1.1]; rfl
    · split at h
      · have h1 := Except.ok.inj h
        simp only [Prod.mk.injEq] at h1
        rw [← h1.1]; rfl
      · cases h
  omega
theorem size_one (k n p : Int) (t : List UInt8) (a : Nd) : ndSize (.mk k n p t [a]) = ndSize a + 1 := by simp [ndSize, ndsSize]
theorem size_two (k n p : Int) (t : List UInt8) (a b : Nd) : ndSize (.mk k n p t [a, b]) = ndSize a + ndSize b + 1 := by simp [ndSize, ndsSize]
theorem size_three (k n p : Int) (t : List UInt8) (a b c : Nd) : ndSize (.mk k n p t [a, b, c]) = ndSize a + ndSize b + ndSize c + 1 := by simp [ndSize, ndsSize]; omega
theorem size_none (k n p : Int) (t : List UInt8) : ndSize (.mk k n p t []) = 1 := rfl
theorem expr_size : ∀ n, (∀ k d l x r, exprF e n k d l = some (.ok (x, r)) → ndSize x + r.length ≤ l.length) ∧ (∀ k d y l x r, loopF e n k d y l = some (.ok (x, r)) → ndSize x + r.length ≤ ndSize y + l.length) ∧ (∀ d l x r, unaryF e n d l = some (.ok (x, r)) → ndSize x + r.length ≤ l.length) ∧ ∀ d l x r, heldF e n d l = some (.ok (x, r)) → ndSize x + r.length ≤ l.length
  | 0 => ⟨fun _ _ _ _ _ h => by (rw [exprF] at h; cases h), fun _ _ _ _ _ _ h => by (rw [loopF] at h; cases h), fun _ _ _ _ h => by (rw [unaryF] at h; cases h), fun _ _ _ _ h => by (rw [heldF] at h; cases h)⟩
  | n + 1 => by
    obtain ⟨h1, h2, h3, h4⟩ := expr_size n
    refine ⟨fun k d l x r h => ?_, fun k d y l x r h => ?_, fun d l x r h => ?_, fun d l x r h => ?_⟩
    · rw [exprF] at h
      split at h
      · exact h3 _ _ _ _ h
      · obtain ⟨a, q, ha, h⟩ := andT_ok h
        have k1 := h1 _ _ _ _ _ ha
        have k2 := h2 _ _ _ _ _ _ h
        omega
    · rw [loopF] at h
      split at h
      · obtain ⟨rfl, rfl⟩ := ok_inj h
        exact Nat.le_refl _
      · rename_i t q hs
        obtain ⟨a, q2, ha, h⟩ := andT_ok h
        have k0 := sign_tl hs
        have k1 := h1 _ _ _ _ _ ha
        have k2 := h2 _ _ _ _ _ _ h
        rw [size_two] at k2
        omega
    · rw [unaryF] at h
      split at h
      · obtain ⟨q, hq, h⟩ := thenT_ok h
        obtain ⟨a, q2, ha, h⟩ := andT_ok h
        obtain ⟨rfl, rfl⟩ := ok_inj h
        have k0 := open_len hq
        have k1 := h3 _ _ _ _ ha
        rw [size_one]
        omega
      · split at h
        · obtain ⟨q, hq, h⟩ := thenT_ok h
          obtain ⟨a, q2, ha, h⟩ := andT_ok h
          obtain ⟨rfl, rfl⟩ := ok_inj h
          have k0 := open_len hq
          have k1 := h3 _ _ _ _ ha
          rw [size_one]
          omega
        · split at h
          · exact h4 _ _ _ _ h
          · exact prim_size (Option.some.inj h)
    · rw [heldF] at h
      obtain ⟨q, hq, h⟩ := thenT_ok h
      obtain ⟨a, q2, ha, h⟩ := andT_ok h
      obtain ⟨q3, hq3, h⟩ := thenT_ok h
      obtain ⟨rfl, rfl⟩ := ok_inj h
      have k0 := open_len hq
      have k1 := h1 _ _ _ _ _ ha
      have k2 := take_len hq3
      omega
theorem et_size {β : Type} {n d : Nat} {s : List UInt8} {l r : List Tok} {f : Nd → List Tok → Option (TRes β)} {y : β} (h : exprThen e n d s l f = some (.ok (y, r))) : ∃ a q, f a q = some (.ok (y, r)) ∧ ndSize a + q.length + 1 ≤ l.length := by
  unfold exprThen at h
  obtain ⟨a, q, ha, h⟩ := andT_ok h
  obtain ⟨q2, hq, h⟩ := thenT_ok h
  have k1 := (expr_size n).1 _ _ _ _ _ ha
  have k2 := take_len hq
  exact ⟨a, q2, h, by omega⟩
theorem word_tail {l : List Tok} {s : List UInt8} (h : wordOf l = s) (hs : s ≠ []) : l.tail.length + 1 ≤ l.length := by
  match l, h with
  | [], h => exact absurd h.symm hs
  | t :: r, _ => simp
theorem assign_size {n d : Nat} {l r : List Tok} {x : Nd} (h : assignF e n d l = some (.ok (x, r))) : ndSize x + r.length ≤ l.length := by
  unfold assignF at h
  obtain ⟨s, q, hs, h⟩ := nameThen_ok h
  obtain ⟨q1, hq1, h⟩ := thenT_ok h
  have k1 := name_len hs
  have k2 := take_len hq1
  split at h
  · obtain ⟨q2, hq2, h⟩ := thenT_ok h
    obtain ⟨q3, hq3, h⟩ := thenT_ok h
    obtain ⟨s2, q4, hs4, h⟩ := nameThen_ok h
    obtain ⟨q5, hq5, h⟩ := thenT_ok h
    obtain ⟨a, q6, h, k6⟩ := et_size h
    obtain ⟨b, q7, h, k7⟩ := et_size h
    obtain ⟨q8, hq8, h⟩ := thenT_ok h
    obtain ⟨rfl, rfl⟩ := ok_inj h
    have := take_len hq2
    have := open_len hq3
    have := name_len hs4
    have := take_len hq5
    have := take_len hq8
    rw [size_three, size_none]
    omega
  · obtain ⟨a, q6, h, k6⟩ := et_size h
    obtain ⟨rfl, rfl⟩ := ok_inj h
    rw [size_one]
    omega
theorem plain_size {n d : Nat} {l r : List Tok} {x : Nd} (h : plainF e n d l = some (.ok (x, r))) : ndSize x + r.length ≤ l.length := by
  unfold plainF at h
  split at h
  · rename_i hw
    have kt := word_tail hw (by decide)
    obtain ⟨s, q, hs, h⟩ := nameThen_ok h
    obtain ⟨q1, hq1, h⟩ := thenT_ok h
    obtain ⟨a, q6, h, k6⟩ := et_size h
    obtain ⟨rfl, rfl⟩ := ok_inj h
    have k1 := name_len hs
    have k2 := take_len hq1
    rw [size_one]
    omega
  · split at h
    · rename_i hw
      have kt := word_tail hw (by decide)
      obtain ⟨a, q, ha, h⟩ := andT_ok h
      obtain ⟨q1, hq1, h⟩ := thenT_ok h
      obtain ⟨rfl, rfl⟩ := ok_inj h
      have k1 := (expr_size n).2.2.2 _ _ _ _ ha
      have k2 := take_len hq1
      rw [size_one]
      omega
    · split at h
      · obtain ⟨q1, hq1, h⟩ := thenT_ok h
        obtain ⟨s, q, hs, h⟩ := nameThen_ok h
        obtain ⟨q2, hq2, h⟩ := thenT_ok h
        obtain ⟨q3, hq3, h⟩ := thenT_ok h
        obtain ⟨rfl, rfl⟩ := ok_inj h
        have k1 := open_len hq1
        have k2 := name_len hs
        have k3 := take_len hq2
        have k4 := take_len hq3
        have k5 := tail_le l
        rw [size_none]
        omega
      · split at h
        · obtain ⟨q1, hq1, h⟩ := thenT_ok h
          obtain ⟨rfl, rfl⟩ := ok_inj h
          have k1 := take_len hq1
          have k5 := tail_le l
          rw [size_none]
          omega
        · exact assign_size h
theorem sizes_snoc : ∀ (ks : List Nd) (x : Nd), ndsSize (ks ++ [x]) = ndsSize ks + ndSize x
  | [], x => by simp [ndsSize]
  | a :: r, x => by simp [ndsSize, sizes_snoc r x]; omega
theorem stmt_size : ∀ n, (∀ d l x r, stmtF e n d l = some (.ok (x, r)) → ndSize x + r.length ≤ l.length) ∧ (∀ d l x r, blockF e n d l = some (.ok (x, r)) → ndSize x + r.length ≤ l.length) ∧ ∀ d ks l x r, stmtsF e n d ks l = some (.ok (x, r)) → ndsSize x + r.length ≤ ndsSize ks + l.length
  | 0 => ⟨fun _ _ _ _ h => by (rw [stmtF] at h; cases h), fun _ _ _ _ h => by (rw [blockF] at h; cases h), fun _ _ _ _ _ h => by (rw [stmtsF] at h; cases h)⟩
  | n + 1 => by
    obtain ⟨h1, h2, h3⟩ := stmt_size n
    refine ⟨fun d l x r h => ?_, fun d l x r h => ?_, fun d ks l x r h => ?_⟩
    · rw [stmtF] at h
      split at h
      · rename_i hw
        have kt := word_tail hw (by decide)
        obtain ⟨a, q, ha, h⟩ := andT_ok h
        obtain ⟨b, q1, hb, h⟩ := andT_ok h
        have k1 := (expr_size n).2.2.2 _ _ _ _ ha
        have k2 := h2 _ _ _ _ hb
        split at h
        · obtain ⟨c, q2, hc, h⟩ := andT_ok h
          obtain ⟨rfl, rfl⟩ := ok_inj h
          have k3 := h2 _ _ _ _ hc
          have k4 := tail_le q1
          rw [size_three]
          omega
        · obtain ⟨rfl, rfl⟩ := ok_inj h
          rw [size_two]
          omega
      · split at h
        · rename_i hw
          have kt := word_tail hw (by decide)
          obtain ⟨a, q, ha, h⟩ := andT_ok h
          obtain ⟨b, q1, hb, h⟩ := andT_ok h
          obtain ⟨rfl, rfl⟩ := ok_inj h
          have k1 := (expr_size n).2.2.2 _ _ _ _ ha
          have k2 := h2 _ _ _ _ hb
          rw [size_two]
          omega
        · exact plain_size h
    · rw [blockF] at h
      obtain ⟨q, hq, h⟩ := thenT_ok h
      obtain ⟨a, q1, ha, h⟩ := andT_ok h
      obtain ⟨q2, hq2, h⟩ := thenT_ok h
      obtain ⟨rfl, rfl⟩ := ok_inj h
      have k1 := open_len hq
      have k2 := h3 _ _ _ _ _ ha
      have k3 := take_len hq2
      simp only [ndsSize] at k2
      show ndsSize a + 1 + _ ≤ _
      omega
    · rw [stmtsF] at h
      split at h
      · obtain ⟨rfl, rfl⟩ := ok_inj h
        exact Nat.le_refl _
      · obtain ⟨a, q1, ha, h⟩ := andT_ok h
        have k1 := h1 _ _ _ _ ha
        have k2 := h3 _ _ _ _ _ h
        rw [sizes_snoc] at k2
        omega
mutual
theorem flat_len : ∀ (x : Nd) (b : Nat), (flat b x).length = ndSize x
  | .mk k n p t ks, b => by rw [flat, List.length_append, flats_len ks b, ndSize]; rfl
theorem flats_len : ∀ (ks : List Nd) (b : Nat), (flats b ks).length = ndsSize ks
  | [], b => rfl
  | x :: r, b => by rw [flats, List.length_append, flat_len x b, flats_len r, ndsSize]
end
theorem flats_snoc : ∀ (ks : List Nd) (x : Nd) (b : Nat), flats b (ks ++ [x]) = flats b ks ++ flat (b + ndsSize ks) x
  | [], x, b => by simp [flats, ndsSize]
  | a :: r, x, b => by
    rw [List.cons_append, flats, flats_snoc r x, flats, ndsSize, List.append_assoc, Nat.add_assoc]
theorem idxs_snoc : ∀ (ks : List Nd) (x : Nd) (b : Nat), idxs b (ks ++ [x]) = idxs b ks ++ [(((b + ndsSize ks + ndSize x : Nat) : Int) - 1)]
  | [], x, b => by simp [idxs, ndsSize]
  | a :: r, x, b => by
    rw [List.cons_append, idxs, idxs_snoc r x, idxs, ndsSize, List.cons_append]
    congr 3
    omega
end
end

end Go.Proofs.YtclnjhffcfkihaeGreatDoor
