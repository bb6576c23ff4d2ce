/-
  LOCKS OF WORDS ARE LOCKS: a program with words in place of its locks comes to the same ends, where nobody falls. Plain functions.
-/
import Derived.Test.YtefnmbnakphhfadSpnQ
namespace Go.Proofs.Ytefnmbnakphhfad
open Go.RowKit

section
variable {n m lk rg : Nat} {L L' : Nat → Nat} {X X' : Nat → Nat → Nat → Int} {pl : Nat → Nat → Nat} {mode : Int}
theorem spin_fwd (hR : SpinR n m L X L' X' pl) (hc : COk n L X m lk rg) (hg : rg ≤ 6) (hmode : mode = 0 ∨ mode = 1) {s0 s1 S : Sx} (hnf : NoFall n L X mode s0) (hs : SOk n L m lk rg mode s0) (hf : s0.fell = false) (hb : SSt n m rg L X pl s0 s1) (h : Rch (nxX L' X' mode) s1 S) : ∃ A, Rch (nxX L X mode) s0 A ∧ SSt n m rg L X pl A S := by
  induction h with
  | base => exact ⟨s0, .base, hb⟩
  | step _ ht ih =>
    obtain ⟨A, hA, hI⟩ := ih
    have hok := reach_ok hs hf hc (by omega) hA
    exact hI.step hR hc hg hmode hnf hA hok.1 hok.2 ht
/-- Each end of the program with words is one of the program with locks. -/
theorem spin_out (hR : SpinR n m L X L' X' pl) (hc : COk n L X m lk rg) (hg : rg ≤ 6) (hmode : mode = 0 ∨ mode = 1) {s0 s1 S : Sx} (hnf : NoFall n L X mode s0) (hs : SOk n L m lk rg mode s0) (hf : s0.fell = false) (hb : SSt n m rg L X pl s0 s1) (h : Rch (nxX L' X' mode) s1 S) {o : Oc} (ho : o ∈ outsX L' X' mode S) (h0 : o.st = 0) : ∃ A, Rch (nxX L X mode) s0 A ∧ (⟨0, o.ws.take m, o.pr⟩ : Oc) ∈ outsX L X mode A := by
  obtain ⟨A, hA, hI⟩ := spin_fwd hR hc hg hmode hnf hs hf hb h
  obtain ⟨hok, hAf⟩ := reach_ok hs hf hc (by omega) hA
  refine ⟨A, hA, ?_⟩
  rcases outs_cases hI.fell (hI.wlen hok) ho with ⟨hm, rfl⟩ | ⟨t, _, _, _, rfl⟩
  · have he : endedX L' S = true := by
      cases e : endedX L' S with
      | true => rfl
      | false => rw [e] at h0; cases h0
    have hA0 : endedX L A = true := by
      unfold endedX at he ⊢
      rw [List.all_eq_true] at he ⊢
      intro t ht
      have htn : t < n := by rw [← hok.ths]; simpa using ht
      have h1 := he t (by rw [hI.len]; simpa using htn)
      rw [Bool.and_eq_true] at h1 ⊢
      have hth := hI.th t htn
      have h2 : L' t ≤ (thOf S t).pc := of_decide_eq_true h1.1
      refine ⟨?_, ?_⟩
      · unfold endedT
        apply decide_eq_true
        rcases pos_lt hR htn hth.pos with ⟨_, h3, _⟩ | h3
        · rcases Nat.lt_or_ge (thOf A t).pc (L t) with h4 | h4
          · have := h3 h4; omega
          · exact h4
        · omega
      · have h3 : (thOf S t).wait = [] := List.isEmpty_iff.mp h1.2
        rw [hth.wait] at h3
        rw [List.map_eq_nil_iff.mp h3]
        rfl
    have := outs_end (moves_ended (X := X) (mode := mode) hA0)
    rw [hA0] at this
    show (⟨0, S.words.take m, S.prints⟩ : Oc) ∈ _
    rw [hI.words, hI.prints, ← hok.words, List.take_left]
    exact this
  · cases h0
/-- All threads stand at the first of what their orders became. -/
def AtP (n : Nat) (pl : Nat → Nat → Nat) (A S : Sx) : Prop := ∀ t, t < n → (thOf S t).pc = pl t (thOf A t).pc
theorem thOf_act1 {s : Sx} {t : Nat} (ht : t < s.ths.length) (k : Ak) (u : Nat) : (thOf (actX mode s t k) u).pc = (thOf s u).pc := by
  have hs : ∀ x, (thOf (storeW mode s t x) u).pc = (thOf s u).pc := fun x => by
    unfold storeW
    split
    · rw [thOf_set ht]
      split
      · rename_i e; rw [e]
      · rfl
    · unfold doneW thOf
      split <;> rfl
  cases k with
  | no => rfl
  | put a v => exact hs _
  | free a => exact hs _
  | take a => rfl
  | swap a v => rfl
  | say v => rfl
theorem AtP.act {A S : Sx} (h : AtP n pl A S) (hA : A.ths.length = n) (hS : S.ths.length = n) {t : Nat} (ht : t < n) {a s : Th} (hs : s.pc = pl t a.pc) (k k' : Ak) : AtP n pl (actX mode (setTh A t a) t k) (actX mode (setTh S t s) t k') := fun u hu => by
  rw [thOf_act1 (by simp [setTh, hS, ht]), thOf_act1 (by simp [setTh, hA, ht]), thOf_set (by rw [hS]; exact ht), thOf_set (by rw [hA]; exact ht)]
  by_cases e : u = t
  · rw [if_pos e, if_pos e, e]; exact hs
  · rw [if_neg e, if_neg e]; exact h u hu
/-- A step of the program with locks: the one with words can do the same. -/
theorem SSt.back (hR : SpinR n m L X L' X' pl) (hc : COk n L X m lk rg) (hg : rg ≤ 6) (hmode : mode = 0 ∨ mode = 1) {s1 A A' S : Sx} (hS : Rch (nxX L' X' mode) s1 S) (hok : SOk n L m lk rg mode A) (hAf : A.fell = false) (h : SSt n m rg L X pl A S) (hat : AtP n pl A S) (hn : A' ∈ nxX L X mode A) : ∃ S', Rch (nxX L' X' mode) s1 S' ∧ SSt n m rg L X pl A' S' ∧ AtP n pl A' S' := by
  have hAl := hok.ths
  rcases nx_cases hAf (fun t ht => hok.wlen t (by rw [← hok.ths]; exact ht)) hn with ⟨t, p, rs, k, ht, ha, he, rfl⟩ | ⟨t, k, ht, hk, hmay, rfl⟩
  · have htn : t < n := by rw [← hAl]; exact ht
    have htS : t < S.ths.length := by rw [h.len]; exact htn
    have hth := h.th t htn
    have hl := able_lt ha
    have hp := hat t htn
    have hr8 := hth.rg.1
    by_cases h17 : X t (thOf A t).pc 0 = 17
    · obtain ⟨q0, q1, q2, q3, q4, q5⟩ := hR.lk t _ htn hl h17
      have hwA : (thOf A t).wait = [] := able_13 ha (Or.inr (Or.inr h17))
      have hw : (thOf S t).wait = [] := by rw [hth.wait, hwA]; rfl
      have ho1 := able_17 ha h17
      have ho := hc.ord t _ htn hl
      rw [h17] at ho
      have ok := ok_lock (Or.inl rfl) ho
      have hlk : S.words.getD ((m : Int) + X t (thOf A t).pc 1).toNat 0 = 0 := by
        rw [h.lock hok ok.1 ok.2]
        show lockV (A.own.getD (opT X A t 1).toNat 0) = 0
        rw [ho1]
        rfl
      obtain ⟨j, hj⟩ : ∃ j, pl t (thOf A t).pc = j := ⟨_, rfl⟩
      rw [hj] at q1 q2 q3 q4 q5 hp
      have r1 := rch_eff hS h.fell htS (able_at hp (by omega) q2 (Or.inl rfl)) (eff_const hp q2)
      obtain ⟨S1, hS1⟩ : ∃ V, setTh S t ⟨j + 1, (thOf S t).regs.set 6 0, (thOf S t).wait⟩ = V := ⟨_, rfl⟩
      have t1 : thOf S1 t = ⟨j + 1, (thOf S t).regs.set 6 0, (thOf S t).wait⟩ := by rw [← hS1]; exact th_set htS _
      have l1 : t < S1.ths.length := by rw [← hS1]; simpa [setTh] using htS
      have f1 : S1.fell = false := by rw [← hS1]; exact h.fell
      have r1' : Rch (nxX L' X' mode) s1 S1 := by rw [← hS1]; exact r1
      have r2 := rch_eff r1' f1 l1 (able_at (j := j + 1) (by rw [t1]) (by omega) q3 (Or.inl rfl)) (eff_const (j := j + 1) (by rw [t1]) q3)
      obtain ⟨S2, hS2⟩ : ∃ V, setTh S1 t ⟨j + 1 + 1, ((thOf S1 t).regs).set 7 1, (thOf S1 t).wait⟩ = V := ⟨_, rfl⟩
      have r2' : Rch (nxX L' X' mode) s1 S2 := by rw [← hS2]; exact r2
      have e2 : S2 = setTh S t ⟨j + 2, ((thOf S t).regs.set 6 0).set 7 1, []⟩ := by rw [← hS2, t1, ← hS1, set_set, hw]
      have t2 : thOf S2 t = ⟨j + 2, ((thOf S t).regs.set 6 0).set 7 1, []⟩ := by rw [e2]; exact th_set htS _
      have l2 : t < S2.ths.length := by rw [e2]; simpa [setTh] using htS
      have f2 : S2.fell = false := by rw [e2]; exact h.fell
      have w2 : S2.words = S.words := by rw [e2]; rfl
      have g6 : (((thOf S t).regs.set 6 0).set 7 1).getD 6 0 = 0 := by rw [get_set_far (by omega)]; exact get_set_same (by omega) _
      have g7 : (((thOf S t).regs.set 6 0).set 7 1).getD 7 0 = 1 := get_set_same (by rw [List.length_set]; omega) _
      have hc2 := eff_cas (X := X') (s := S2) (t := t) (j := j + 2) (by rw [t2]) (by rw [t2]) q4
      rw [w2, hlk, t2, show ((6 : Int)).toNat = 6 from rfl, show ((7 : Int)).toNat = 7 from rfl] at hc2
      simp only at hc2
      rw [g6, g7, if_pos rfl] at hc2
      have r3 := rch_eff r2' f2 l2 (able_at (j := j + 2) (by rw [t2]) (by omega) q4 (Or.inr (Or.inr (Or.inl ⟨rfl, by rw [t2]⟩)))) hc2
      obtain ⟨S3, hS3⟩ : ∃ V, actX mode (setTh S2 t ⟨j + 2 + 1, ((((thOf S t).regs.set 6 0).set 7 1).set 6 1), (thOf S2 t).wait⟩) t (.swap ((m : Int) + X t (thOf A t).pc 1) 1) = V := ⟨_, rfl⟩
      rw [hS3] at r3
      have e3 : S3 = { setTh S t ⟨j + 3, (((thOf S t).regs.set 6 0).set 7 1).set 6 1, []⟩ with words := S.words.set ((m : Int) + X t (thOf A t).pc 1).toNat 1 } := by
        rw [← hS3, t2, e2, set_set]
        rfl
      have t3 : thOf S3 t = ⟨j + 3, (((thOf S t).regs.set 6 0).set 7 1).set 6 1, []⟩ := by
        rw [e3]
        exact th_set (s := S) htS _
      have l3 : t < S3.ths.length := by rw [e3]; simpa [setTh] using htS
      have f3 : S3.fell = false := by rw [e3]; exact h.fell
      have g3 : ((((thOf S t).regs.set 6 0).set 7 1).set 6 1).getD 6 0 = 1 := get_set_same (by rw [List.length_set, List.length_set]; omega) _
      have hz := eff_zero (X := X') (s := S3) (t := t) (j := j + 3) (by rw [t3]) q5
      rw [t3, show ((6 : Int)).toNat = 6 from rfl] at hz
      simp only at hz
      rw [g3, if_neg (by decide)] at hz
      have r4 := rch_eff r3 f3 l3 (able_at (j := j + 3) (by rw [t3]) (by omega) q5 (Or.inr (Or.inl rfl))) hz
      obtain ⟨e1, e4⟩ := h.takes (mode := mode) hc hok htn hl h17 (p' := j + 4) (r' := (((thOf S t).regs.set 6 0).set 7 1).set 6 1) ⟨((hth.rg.far hg _).far (by omega) _).far hg _, hth.wait, Or.inl (by show j + 4 = _; rw [q0, hj])⟩
      rw [e1] at he
      cases he
      have e5 : actX mode (setTh S3 t ⟨j + 3 + 1, (((thOf S t).regs.set 6 0).set 7 1).set 6 1, (thOf S3 t).wait⟩) t .no = actX mode (setTh S t ⟨j + 4, (((thOf S t).regs.set 6 0).set 7 1).set 6 1, (thOf S t).wait⟩) t (.swap ((m : Int) + opT X A t 1) 1) := by
        rw [t3, e3, hw]
        unfold actX setTh
        simp only [List.set_set]
        rfl
      rw [e5] at r4
      exact ⟨_, r4, e4, hat.act hAl h.len htn (by show j + 4 = pl t _; rw [q0, hj]) _ _⟩
    by_cases h18 : X t (thOf A t).pc 0 = 18
    · obtain ⟨q0, q1, q2, q3⟩ := hR.ul t _ htn hl h18
      obtain ⟨j, hj⟩ : ∃ j, pl t (thOf A t).pc = j := ⟨_, rfl⟩
      rw [hj] at q1 q2 q3 hp
      have hwl : (thOf S t).wait.length < 3 := by
        have h1 : (thOf A t).wait.length < 3 := by
          unfold ableT at ha
          rw [show opT X A t 0 = 18 from h18] at ha
          split at ha
          · cases ha
          · simp only [or_true, ↓reduceIte] at ha
            exact of_decide_eq_true ha
        rw [hth.wait, List.length_map]
        exact h1
      have r1 := rch_eff hS h.fell htS (able_at hp (by omega) q2 (Or.inl rfl)) (eff_const hp q2)
      obtain ⟨S1, hS1⟩ : ∃ V, setTh S t ⟨j + 1, (thOf S t).regs.set 6 0, (thOf S t).wait⟩ = V := ⟨_, rfl⟩
      have t1 : thOf S1 t = ⟨j + 1, (thOf S t).regs.set 6 0, (thOf S t).wait⟩ := by rw [← hS1]; exact th_set htS _
      have l1 : t < S1.ths.length := by rw [← hS1]; simpa [setTh] using htS
      have f1 : S1.fell = false := by rw [← hS1]; exact h.fell
      have r1' : Rch (nxX L' X' mode) s1 S1 := by rw [← hS1]; exact r1
      have g6 : ((thOf S t).regs.set 6 0).getD 6 0 = 0 := get_set_same (by omega) _
      have hz := eff_store (X := X') (s := S1) (t := t) (j := j + 1) (by rw [t1]) q3
      rw [t1, show ((6 : Int)).toNat = 6 from rfl] at hz
      simp only at hz
      rw [g6] at hz
      have r2 := rch_eff r1' f1 l1 (able_at (j := j + 1) (by rw [t1]) (by omega) q3 (Or.inr (Or.inr (Or.inr ⟨rfl, by rw [t1]; exact hwl⟩)))) hz
      obtain ⟨e1, e4⟩ := h.frees (mode := mode) hc hok htn hl h18 (by rw [he]; exact fun e => by cases e) (p' := j + 2) (r' := (thOf S t).regs.set 6 0) ⟨hth.rg.far hg _, hth.wait, Or.inl (by show j + 2 = _; rw [q0, hj])⟩
      rw [e1] at he
      cases he
      have e5 : setTh S1 t ⟨j + 1 + 1, (thOf S t).regs.set 6 0, (thOf S1 t).wait⟩ = setTh S t ⟨j + 2, (thOf S t).regs.set 6 0, (thOf S t).wait⟩ := by rw [t1, ← hS1, set_set]
      rw [e5] at r2
      exact ⟨_, r2, e4, hat.act hAl h.len htn (by show j + 2 = pl t _; rw [q0, hj]) _ _⟩
    obtain ⟨e1, e2⟩ := h.plain hR hc hg hok htn hp hl h17 h18
    obtain ⟨r', e4, _, e5⟩ := e2 p rs k he
    exact ⟨_, rch_eff hS h.fell htS (e1.trans ha) e4, e5, hat.act hAl h.len htn rfl _ _⟩
  · have htn : t < n := by rw [← hAl]; exact ht
    have htS : t < S.ths.length := by rw [h.len]; exact htn
    have hth := h.th t htn
    have hk0 : k = 0 := by
      rcases hmode with e | e
      · have := hok.bare e t htn
        rw [this] at hk
        cases hk
      · unfold mayW at hmay
        by_cases e0 : k = 0
        · exact e0
        · rw [if_neg e0, if_pos (Or.inl e)] at hmay
          cases hmay
    subst hk0
    have hne : (thOf S t).wait ≠ [] := fun e => by
      rw [hth.wait] at e
      rw [List.map_eq_nil_iff.mp e] at hk
      cases hk
    have hr := rch_fin hS htS hne h.fell
    rw [doX_wait (k := 0) (by omega)] at hr
    refine ⟨_, hr, h.fin hok htn hk, fun u hu => ?_⟩
    have hd : ∀ (Z : Sx) x, (doneW Z x).ths = Z.ths := fun Z x => by unfold doneW; split <;> rfl
    have hu' : ∀ (Z : Sx) x, thOf (doneW Z x) u = thOf Z u := fun Z x => by unfold thOf; rw [hd]
    rw [thOf_set (by rw [hd]; exact htS), thOf_set (by rw [hd]; exact ht), hu', hu']
    by_cases e : u = t
    · rw [if_pos e, if_pos e, e]; exact hat t htn
    · rw [if_neg e, if_neg e]; exact hat u hu
theorem spin_bwd (hR : SpinR n m L X L' X' pl) (hc : COk n L X m lk rg) (hg : rg ≤ 6) (hmode : mode = 0 ∨ mode = 1) {s0 s1 A : Sx} (hs : SOk n L m lk rg mode s0) (hf : s0.fell = false) (hb : SSt n m rg L X pl s0 s1) (hat : AtP n pl s0 s1) (h : Rch (nxX L X mode) s0 A) : ∃ S, Rch (nxX L' X' mode) s1 S ∧ SSt n m rg L X pl A S ∧ AtP n pl A S := by
  induction h with
  | base => exact ⟨s1, .base, hb, hat⟩
  | step hA ht ih =>
    obtain ⟨S, hS, hI, hP⟩ := ih
    have hok := reach_ok hs hf hc (by omega) hA
    exact hI.back hR hc hg hmode hS hok.1 hok.2 hP ht
/-- Each end of the program with locks is one of the program with words. -/
theorem spin_back (hR : SpinR n m L X L' X' pl) (hc : COk n L X m lk rg) (hg : rg ≤ 6) (hmode : mode = 0 ∨ mode = 1) {s0 s1 A : Sx} (hs : SOk n L m lk rg mode s0) (hf : s0.fell = false) (hb : SSt n m rg L X pl s0 s1) (hat : AtP n pl s0 s1) (h : Rch (nxX L X mode) s0 A) {o : Oc} (ho : o ∈ outsX L X mode A) (h0 : o.st = 0) : o.ws.length = m ∧ ∃ S, Rch (nxX L' X' mode) s1 S ∧ ∃ q, q ∈ outsX L' X' mode S ∧ q.st = 0 ∧ q.ws.take m = o.ws ∧ q.pr = o.pr := by
  obtain ⟨hok, hAf⟩ := reach_ok hs hf hc (by omega) h
  obtain ⟨S, hS, hI, hP⟩ := spin_bwd hR hc hg hmode hs hf hb hat h
  rcases outs_cases hAf (fun t ht => hok.wlen t (by rw [← hok.ths]; exact ht)) ho with ⟨hm, rfl⟩ | ⟨t, _, _, _, rfl⟩
  · have he : endedX L A = true := by
      cases e : endedX L A with
      | true => rfl
      | false => rw [e] at h0; cases h0
    have hS0 : endedX L' S = true := by
      unfold endedX at he ⊢
      rw [List.all_eq_true] at he ⊢
      intro t ht
      have htn : t < n := by rw [← hI.len]; simpa using ht
      have h1 := he t (by rw [hok.ths]; simpa using htn)
      rw [Bool.and_eq_true] at h1 ⊢
      have hth := hI.th t htn
      have h2 : L t ≤ (thOf A t).pc := of_decide_eq_true h1.1
      have h3 := hok.pc t htn
      have e1 : (thOf A t).pc = L t := by omega
      refine ⟨?_, ?_⟩
      · unfold endedT
        rw [hP t htn, e1, hR.e t htn]
        exact decide_eq_true (Nat.le_refl _)
      · rw [hth.wait, List.isEmpty_iff.mp h1.2]
        rfl
    refine ⟨hok.words, S, hS, _, outs_end (moves_ended (X := X') (mode := mode) hS0), by rw [hS0]; rfl, ?_, hI.prints⟩
    show S.words.take m = A.words
    rw [hI.words, ← hok.words, List.take_left]
  · cases h0
end

end Go.Proofs.Ytefnmbnakphhfad
