/-
  Every text is read, or something is told of it: there is a bound that is enough.
  Every text is read, or something is told of it: statements, programs.
-/
import Derived.Test.YtggfbfjdiikaeaaGreatDoorSynB
namespace Go.Proofs.YtggfbfjdiikaeaaGreatDoor
section
section
variable {e : Int}
theorem is_len {s : List UInt8} {l : List Tok} (h : isTok s l = true) : l.tail.length < l.length := by
  match l, h with
  | t :: r, _ => simp
theorem take_len {s : List UInt8} {l r : List Tok} (h : takeT e s l = .ok r) : r.length < l.length := by
  obtain ⟨h1, rfl⟩ := take_ok h
  exact is_len h1
theorem open_len {s : List UInt8} {d : Nat} {l r : List Tok} (h : openT e s d l = .ok r) : r.length < l.length := by
  obtain ⟨h1, _, rfl⟩ := open_ok h
  exact is_len h1
theorem name_len {s : List UInt8} {l r : List Tok} (h : nameT e l = .ok (s, r)) : r.length < l.length := by
  match l, h with
  | t :: q, h =>
    rw [nameT] at h
    split at h
    · have h1 := Except.ok.inj h
      simp only [Prod.mk.injEq] at h1
      rw [← h1.2]; simp
    · cases h
theorem tnum_len {v : Int} {l r : List Tok} (h : tnumT e l = .ok (v, r)) : r.length < l.length := by
  match l, h with
  | t :: q, h =>
    rw [tnumT] at h
    split at h
    · have h1 := Except.ok.inj h
      simp only [Prod.mk.injEq] at h1
      rw [← h1.2]; simp
    · cases h
theorem prim_len {x : Nd} {l r : List Tok} (h : primT e l = .ok (x, r)) : r.length < l.length := by
  unfold primT at h
  split at h
  · rename_i v q hq
    have h1 := Except.ok.inj h
    simp only [Prod.mk.injEq] at h1
    rw [← h1.2]; exact tnum_len hq
  · split at h
    · rename_i s q hq
      have h1 := Except.ok.inj h
      simp only [Prod.mk.injEq] at h1
      rw [← h1.2]; exact name_len hq
    · cases h
theorem sign_tl {k : Nat} {l r : List Tok} {t : Tok} (h : signAt k l = some (t, r)) : r.length < l.length := by
  match l, h with
  | a :: q, h =>
    rw [signAt] at h
    split at h
    · simp only [Option.some.injEq, Prod.mk.injEq] at h
      rw [← h.2]; simp
    · cases h
theorem expr_len : ∀ n, (∀ k d l x r, exprF e n k d l = some (.ok (x, r)) → r.length < l.length) ∧ (∀ k d y l x r, loopF e n k d y l = some (.ok (x, r)) → r.length ≤ l.length) ∧ (∀ d l x r, unaryF e n d l = some (.ok (x, r)) → r.length < l.length) ∧ ∀ d l x r, heldF e n d l = some (.ok (x, r)) → r.length < l.length
  | 0 => ⟨fun _ _ _ _ _ h => by (rw [exprF] at h; cases h), fun _ _ _ _ _ _ h => by (rw [loopF] at h; cases h), fun _ _ _ _ h => by (rw [unaryF] at h; cases h), fun _ _ _ _ h => by (rw [heldF] at h; cases h)⟩
  | n + 1 => by
    obtain ⟨h1, h2, h3, h4⟩ := expr_len n
    refine ⟨fun k d l x r h => ?_, fun k d y l x r h => ?_, fun d l x r h => ?_, fun d l x r h => ?_⟩
    · rw [exprF] at h
      split at h
      · exact h3 _ _ _ _ h
      · obtain ⟨a, q, ha, h⟩ := andT_ok h
        have k1 := h1 _ _ _ _ _ ha
        have k2 := h2 _ _ _ _ _ _ h
        omega
    · rw [loopF] at h
      split at h
      · obtain ⟨_, rfl⟩ := ok_inj h
        exact Nat.le_refl _
      · rename_i t q hs
        obtain ⟨a, q2, ha, h⟩ := andT_ok h
        have k0 := sign_tl hs
        have k1 := h1 _ _ _ _ _ ha
        have k2 := h2 _ _ _ _ _ _ h
        omega
    · rw [unaryF] at h
      split at h
      · obtain ⟨q, hq, h⟩ := thenT_ok h
        obtain ⟨a, q2, ha, h⟩ := andT_ok h
        obtain ⟨_, rfl⟩ := ok_inj h
        have k0 := open_len hq
        have k1 := h3 _ _ _ _ ha
        omega
      · split at h
        · obtain ⟨q, hq, h⟩ := thenT_ok h
          obtain ⟨a, q2, ha, h⟩ := andT_ok h
          obtain ⟨_, rfl⟩ := ok_inj h
          have k0 := open_len hq
          have k1 := h3 _ _ _ _ ha
          omega
        · split at h
          · exact h4 _ _ _ _ h
          · exact prim_len (Option.some.inj h)
    · rw [heldF] at h
      obtain ⟨q, hq, h⟩ := thenT_ok h
      obtain ⟨a, q2, ha, h⟩ := andT_ok h
      obtain ⟨q3, hq3, h⟩ := thenT_ok h
      obtain ⟨_, rfl⟩ := ok_inj h
      have k0 := open_len hq
      have k1 := h1 _ _ _ _ _ ha
      have k2 := take_len hq3
      omega

/-- Something is told, by some bound. -/
def Tot {α : Type} (f : Nat → Option α) : Prop := ∃ n r, f n = some r
theorem tot_is {α : Type} (r : α) : Tot (fun _ => some r) := ⟨0, r, rfl⟩
theorem tot_up {α : Type} {f : Nat → Option α} (h : Tot fun n => f (n + 1)) : Tot f := by
  obtain ⟨n, r, hr⟩ := h
  exact ⟨n + 1, r, hr⟩
theorem tot_and {α β : Type} {f : Nat → Option (TRes α)} {g : Nat → α → List Tok → Option (TRes β)} (uf : ∀ n, Le (f n) (f (n + 1))) (ug : ∀ n a l, Le (g n a l) (g (n + 1) a l)) (hf : Tot f) (hg : ∀ n a l, f n = some (.ok (a, l)) → Tot fun n => g n a l) : Tot fun n => andT (f n) (g n) := by
  obtain ⟨n, r, hr⟩ := hf
  match r, hr with
  | .error q, hr => exact ⟨n, .error q, by show andT (f n) (g n) = _; rw [hr]; rfl⟩
  | .ok (a, l), hr =>
    obtain ⟨m, r, hm⟩ := hg n a l hr
    refine ⟨n + m, r, ?_⟩
    show andT (f (n + m)) (g (n + m)) = _
    rw [tell_more uf hr (by omega)]
    exact tell_more (f := fun n => g n a l) (fun n => ug n a l) hm (by omega)
theorem tot_then {β : Type} {x : Except (Int × Int) (List Tok)} {g : Nat → List Tok → Option (TRes β)} (hg : ∀ l, x = .ok l → Tot fun n => g n l) : Tot fun n => thenT x (g n) := by
  match x, hg with
  | .error q, _ => exact ⟨0, .error q, rfl⟩
  | .ok l, hg => exact hg l rfl
theorem tot_name {β : Type} {x : TRes (List UInt8)} {g : Nat → List UInt8 → List Tok → Option (TRes β)} (hg : ∀ s l, x = .ok (s, l) → Tot fun n => g n s l) : Tot fun n => nameThen x (g n) := by
  match x, hg with
  | .error q, _ => exact ⟨0, .error q, rfl⟩
  | .ok (s, l), hg => exact hg s l rfl
theorem expr_tot : ∀ (N : Nat) (l : List Tok), l.length ≤ N → ∀ d, (∀ k x, Tot fun n => loopF e n k d x l) ∧ (Tot fun n => heldF e n d l) ∧ (Tot fun n => unaryF e n d l) ∧ ∀ k, k ≤ 5 → Tot fun n => exprF e n k d l := by
  intro N
  induction N using Nat.strongRecOn with
  | ind N ih =>
    intro l hl d
    have lo : ∀ (q : List Tok), q.length ≤ N → ∀ k x, Tot fun n => loopF e n k d x q := by
      intro q hq k x
      apply tot_up
      cases hs : signAt k q with
      | none => simp only [loopF, hs]; exact tot_is _
      | some p =>
        obtain ⟨t, r⟩ := p
        simp only [loopF, hs]
        have k0 := sign_tl hs
        by_cases hk : k + 1 ≤ 5
        · refine tot_and (ex_up (k + 1) r) (fun n a l => lo_up k _ l n) ((ih (N - 1) (by omega) r (by omega) d).2.2.2 (k + 1) hk) fun n a l h => ?_
          have k1 := (expr_len n).1 _ _ _ _ _ h
          exact (ih (N - 1) (by omega) l (by omega) d).1 k _
        · have h1 := (sign_at hs).1
          have := lvl_le t.text
          omega
    have he : Tot fun n => heldF e n d l := by
      apply tot_up
      simp only [heldF]
      refine tot_then fun r hr => ?_
      have k0 := open_len hr
      exact tot_and (ex_up 0 r) (fun n a l => Le.refl _) ((ih (N - 1) (by omega) r (by omega) (d + 1)).2.2.2 0 (by omega)) fun n a l _ => tot_then fun _ _ => tot_is _
    have un : Tot fun n => unaryF e n d l := by
      apply tot_up
      simp only [unaryF]
      by_cases h1 : isTok [45] l = true
      · simp only [h1, if_true]
        refine tot_then fun r hr => ?_
        have k0 := open_len hr
        exact tot_and (un_up r) (fun n a l => Le.refl _) (ih (N - 1) (by omega) r (by omega) (d + 1)).2.2.1 fun n a l _ => tot_is _
      · simp only [h1]
        by_cases h2 : isTok [33] l = true
        · simp only [h2, if_true]
          refine tot_then fun r hr => ?_
          have k0 := open_len hr
          exact tot_and (un_up r) (fun n a l => Le.refl _) (ih (N - 1) (by omega) r (by omega) (d + 1)).2.2.1 fun n a l _ => tot_is _
        · simp only [h2]
          by_cases h3 : isTok [40] l = true
          · simp only [h3, if_true]
            exact he
          · simp only [h3]
            exact tot_is _
    refine ⟨fun k x => lo l hl k x, he, un, fun k hk => ?_⟩
    have key : ∀ j k, k + j = 5 → Tot fun n => exprF e n k d l := by
      intro j
      induction j with
      | zero =>
        intro k hk
        apply tot_up
        simp only [exprF, show k = 5 by omega, if_true]
        exact un
      | succ j ihj =>
        intro k hk
        apply tot_up
        simp only [exprF, show ¬ k = 5 by omega, if_false]
        refine tot_and (ex_up (k + 1) l) (fun n a l => lo_up k a l n) (ihj (k + 1) (by omega)) fun n a q h => ?_
        have k1 := (expr_len n).1 _ _ _ _ _ h
        exact lo q (by omega) k a
    exact key (5 - k) k (by omega)
theorem ex_tot (k d : Nat) (l : List Tok) (hk : k ≤ 5) : Tot fun n => exprF e n k d l := (expr_tot l.length l (Nat.le_refl _) d).2.2.2 k hk
theorem he_tot (d : Nat) (l : List Tok) : Tot fun n => heldF e n d l := (expr_tot l.length l (Nat.le_refl _) d).2.1
theorem et_tot {β : Type} {d : Nat} {s : List UInt8} {l : List Tok} {g : Nat → Nd → List Tok → Option (TRes β)} (ug : ∀ n a l, Le (g n a l) (g (n + 1) a l)) (hg : ∀ a l, Tot fun n => g n a l) : Tot fun n => exprThen e n d s l (g n) :=
  tot_and (ex_up 0 l) (fun n a l => thenT_le fun _ => ug _ _ _) (ex_tot 0 d l (by omega)) fun _ _ _ _ => tot_then fun _ _ => hg _ _
theorem assign_tot (d : Nat) (l : List Tok) : Tot fun n => assignF e n d l := by
  unfold assignF
  refine tot_name fun s q _ => tot_then fun r _ => ?_
  by_cases h : isTok wCas r = true
  · simp only [h, if_true]
    exact tot_then fun _ _ => tot_then fun _ _ => tot_name fun _ _ _ => tot_then fun _ _ => et_tot (fun n a l => exprThen_le fun _ _ => Le.refl _) fun _ _ => et_tot (fun n a l => Le.refl _) fun _ _ => tot_then fun _ _ => tot_is _
  · simp only [h]
    exact et_tot (fun n a l => Le.refl _) fun _ _ => tot_is _
theorem plain_tot (d : Nat) (l : List Tok) : Tot fun n => plainF e n d l := by
  unfold plainF
  by_cases h1 : wordOf l = wInt
  · simp only [h1, if_true]
    exact tot_name fun _ _ _ => tot_then fun _ _ => et_tot (fun n a l => Le.refl _) fun _ _ => tot_is _
  · simp only [h1, if_false]
    by_cases h2 : wordOf l = wPrint
    · simp only [h2, if_true]
      exact tot_and (he_up _) (fun n a l => Le.refl _) (he_tot _ _) fun _ _ _ _ => tot_then fun _ _ => tot_is _
    · simp only [h2, if_false]
      by_cases h3 : wordOf l = wLock ∨ wordOf l = wUnlock
      · simp only [h3, if_true]
        exact tot_then fun _ _ => tot_name fun _ _ _ => tot_then fun _ _ => tot_then fun _ _ => tot_is _
      · simp only [h3, if_false]
        by_cases h4 : wordOf l = wFence
        · simp only [h4, if_true]
          exact tot_then fun _ _ => tot_is _
        · simp only [h4, if_false]
          exact assign_tot d l
end
end

section
section
variable {e : Int}
theorem et_len {β : Type} {n d : Nat} {s : List UInt8} {l r : List Tok} {f : Nd → List Tok → Option (TRes β)} {y : β} (h : exprThen e n d s l f = some (.ok (y, r))) : ∃ a q, f a q = some (.ok (y, r)) ∧ q.length < l.length := by
  unfold exprThen at h
  obtain ⟨a, q, ha, h⟩ := andT_ok h
  obtain ⟨q2, hq, h⟩ := thenT_ok h
  have k1 := (expr_len n).1 _ _ _ _ _ ha
  have k2 := take_len hq
  exact ⟨a, q2, h, by omega⟩
theorem tail_le (l : List Tok) : l.tail.length ≤ l.length := by cases l <;> simp
theorem assign_len {n d : Nat} {l r : List Tok} {x : Nd} (h : assignF e n d l = some (.ok (x, r))) : r.length < l.length := by
  unfold assignF at h
  obtain ⟨s, q, hs, h⟩ := nameThen_ok h
  obtain ⟨q1, hq1, h⟩ := thenT_ok h
  have k1 := name_len hs
  have k2 := take_len hq1
  split at h
  · obtain ⟨q2, hq2, h⟩ := thenT_ok h
    obtain ⟨q3, hq3, h⟩ := thenT_ok h
    obtain ⟨s2, q4, hs4, h⟩ := nameThen_ok h
    obtain ⟨q5, hq5, h⟩ := thenT_ok h
    obtain ⟨a, q6, h, k6⟩ := et_len h
    obtain ⟨b, q7, h, k7⟩ := et_len h
    obtain ⟨q8, hq8, h⟩ := thenT_ok h
    obtain ⟨_, rfl⟩ := ok_inj h
    have := take_len hq2
    have := open_len hq3
    have := name_len hs4
    have := take_len hq5
    have := take_len hq8
    omega
  · obtain ⟨a, q6, h, k6⟩ := et_len h
    obtain ⟨_, rfl⟩ := ok_inj h
    omega
theorem plain_len {n d : Nat} {l r : List Tok} {x : Nd} (h : plainF e n d l = some (.ok (x, r))) : r.length < l.length := by
  have kt := tail_le l
  unfold plainF at h
  split at h
  · obtain ⟨s, q, hs, h⟩ := nameThen_ok h
    obtain ⟨q1, hq1, h⟩ := thenT_ok h
    obtain ⟨a, q6, h, k6⟩ := et_len h
    obtain ⟨_, rfl⟩ := ok_inj h
    have k1 := name_len hs
    have k2 := take_len hq1
    omega
  · split at h
    · obtain ⟨a, q, ha, h⟩ := andT_ok h
      obtain ⟨q1, hq1, h⟩ := thenT_ok h
      obtain ⟨_, rfl⟩ := ok_inj h
      have k1 := (expr_len n).2.2.2 _ _ _ _ ha
      have k2 := take_len hq1
      omega
    · split at h
      · obtain ⟨q1, hq1, h⟩ := thenT_ok h
        obtain ⟨s, q, hs, h⟩ := nameThen_ok h
        obtain ⟨q2, hq2, h⟩ := thenT_ok h
        obtain ⟨q3, hq3, h⟩ := thenT_ok h
        obtain ⟨_, rfl⟩ := ok_inj h
        have k1 := open_len hq1
        have k2 := name_len hs
        have k3 := take_len hq2
        have k4 := take_len hq3
        omega
      · split at h
        · obtain ⟨q1, hq1, h⟩ := thenT_ok h
          obtain ⟨_, rfl⟩ := ok_inj h
          have k1 := take_len hq1
          omega
        · exact assign_len h
theorem stmt_len : ∀ n, (∀ d l x r, stmtF e n d l = some (.ok (x, r)) → r.length < l.length) ∧ (∀ d l x r, blockF e n d l = some (.ok (x, r)) → r.length < l.length) ∧ ∀ d ks l x r, stmtsF e n d ks l = some (.ok (x, r)) → r.length ≤ l.length
  | 0 => ⟨fun _ _ _ _ h => by (rw [stmtF] at h; cases h), fun _ _ _ _ h => by (rw [blockF] at h; cases h), fun _ _ _ _ _ h => by (rw [stmtsF] at h; cases h)⟩
  | n + 1 => by
    obtain ⟨h1, h2, h3⟩ := stmt_len n
    refine ⟨fun d l x r h => ?_, fun d l x r h => ?_, fun d ks l x r h => ?_⟩
    · have kt := tail_le l
      rw [stmtF] at h
      split at h
      · obtain ⟨a, q, ha, h⟩ := andT_ok h
        obtain ⟨b, q1, hb, h⟩ := andT_ok h
        have k1 := (expr_len n).2.2.2 _ _ _ _ ha
        have k2 := h2 _ _ _ _ hb
        split at h
        · obtain ⟨c, q2, hc, h⟩ := andT_ok h
          obtain ⟨_, rfl⟩ := ok_inj h
          have k3 := h2 _ _ _ _ hc
          have k4 := tail_le q1
          omega
        · obtain ⟨_, rfl⟩ := ok_inj h
          omega
      · split at h
        · obtain ⟨a, q, ha, h⟩ := andT_ok h
          obtain ⟨b, q1, hb, h⟩ := andT_ok h
          obtain ⟨_, rfl⟩ := ok_inj h
          have k1 := (expr_len n).2.2.2 _ _ _ _ ha
          have k2 := h2 _ _ _ _ hb
          omega
        · exact plain_len h
    · rw [blockF] at h
      obtain ⟨q, hq, h⟩ := thenT_ok h
      obtain ⟨a, q1, ha, h⟩ := andT_ok h
      obtain ⟨q2, hq2, h⟩ := thenT_ok h
      obtain ⟨_, rfl⟩ := ok_inj h
      have k1 := open_len hq
      have k2 := h3 _ _ _ _ _ ha
      have k3 := take_len hq2
      omega
    · rw [stmtsF] at h
      split at h
      · obtain ⟨_, rfl⟩ := ok_inj h
        exact Nat.le_refl _
      · obtain ⟨a, q1, ha, h⟩ := andT_ok h
        have k1 := h1 _ _ _ _ ha
        have k2 := h3 _ _ _ _ _ h
        omega
theorem stmt_tot : ∀ (N : Nat) (l : List Tok), l.length ≤ N → ∀ d, (Tot fun n => blockF e n d l) ∧ (Tot fun n => stmtF e n d l) ∧ ∀ ks, Tot fun n => stmtsF e n d ks l := by
  intro N
  induction N using Nat.strongRecOn with
  | ind N ih =>
    intro l hl d
    have bl : ∀ d, Tot fun n => blockF e n d l := by
      intro d
      apply tot_up
      simp only [blockF]
      refine tot_then fun r hr => ?_
      have k0 := open_len hr
      exact tot_and (ss_up (d + 1) [] r) (fun n a l => Le.refl _) ((ih (N - 1) (by omega) r (by omega) (d + 1)).2.2 []) fun n a l _ => tot_then fun _ _ => tot_is _
    have st : Tot fun n => stmtF e n d l := by
      have kt := tail_le l
      apply tot_up
      simp only [stmtF]
      by_cases h1 : wordOf l = wIf
      · simp only [h1, if_true]
        refine tot_and (he_up l.tail) (fun n a l => andT_le (bl_up d l n) fun _ _ => ite_le (andT_le (bl_up d _ n) fun _ _ => Le.refl _) (Le.refl _)) (he_tot d l.tail) fun n a q hq => ?_
        have k1 := (expr_len n).2.2.2 _ _ _ _ hq
        refine tot_and (bl_up d q) (fun n a l => ite_le (andT_le (bl_up d _ n) fun _ _ => Le.refl _) (Le.refl _)) (ih (N - 1) (by omega) q (by omega) d).1 fun n b q2 hq2 => ?_
        have k2 := (stmt_len n).2.1 _ _ _ _ hq2
        by_cases h2 : isTok wElse q2 = true
        · simp only [h2, if_true]
          have k3 := tail_le q2
          exact tot_and (bl_up d q2.tail) (fun n a l => Le.refl _) (ih (N - 1) (by omega) q2.tail (by omega) d).1 fun n c q3 _ => tot_is _
        · simp only [h2]
          exact tot_is _
      · simp only [h1, if_false]
        by_cases h2 : wordOf l = wWhile
        · simp only [h2, if_true]
          refine tot_and (he_up l.tail) (fun n a l => andT_le (bl_up d l n) fun _ _ => Le.refl _) (he_tot d l.tail) fun n a q hq => ?_
          have k1 := (expr_len n).2.2.2 _ _ _ _ hq
          exact tot_and (bl_up d q) (fun n a l => Le.refl _) (ih (N - 1) (by omega) q (by omega) d).1 fun n b q2 hq2 => tot_is _
        · simp only [h2, if_false]
          exact plain_tot d l
    refine ⟨bl d, st, fun ks => ?_⟩
    apply tot_up
    simp only [stmtsF]
    by_cases h1 : isTok [125] l = true
    · simp only [h1, if_true]
      exact tot_is _
    · simp only [h1]
      refine tot_and (st_up d l) (fun n a l => ss_up d _ l n) st fun n a q hq => ?_
      have k1 := (stmt_len n).1 _ _ _ _ hq
      exact (ih (N - 1) (by omega) q (by omega) d).2.2 _
theorem threads_tot : ∀ (N : Nat) (l : List Tok), l.length ≤ N → ∀ ks, Tot fun n => threadsF e n ks l := by
  intro N
  induction N using Nat.strongRecOn with
  | ind N ih =>
    intro l hl ks
    apply tot_up
    simp only [threadsF]
    by_cases h : l = []
    · simp only [h, if_true]
      exact tot_is _
    · simp only [h, if_false]
      refine tot_then fun r hr => ?_
      have k0 := take_len hr
      refine tot_and (bl_up 0 r) (fun n a q => threads_le e n _ q) (stmt_tot r.length r (Nat.le_refl _) 0).1 fun n b q hq => ?_
      have k1 := (stmt_len n).2.1 _ _ _ _ hq
      exact ih (N - 1) (by omega) q (by omega) _
end
end

end Go.Proofs.YtggfbfjdiikaeaaGreatDoor
