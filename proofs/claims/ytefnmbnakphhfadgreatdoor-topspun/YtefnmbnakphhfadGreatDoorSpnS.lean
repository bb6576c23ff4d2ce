/-
  LOCKS OF WORDS ARE LOCKS: a program with words in place of its locks comes to the same ends, where nobody falls. Plain functions.
  What is told of a program with words in place of its locks, and of the one with locks: plain functions.
  Which of two outcomes comes first: compare and same.
  Outcomes are sorted, by the program.
-/
import Derived.Test.YtefnmbnakphhfadGreatDoorSpnP
import Derived.Test.YtefnmbnakphhfadGreatDoorFenL
import Derived.Test.YtefnmbnakphhfadGreatDoorSameI
import Derived.Shelf.SlSortCmp.WholeK
import Derived.BigRegion
import Derived.Test.YtefnmbnakphhfadGreatDoorShelfS
namespace Go.Proofs.YtefnmbnakphhfadGreatDoor
section
open Go.RowKit

section
variable {n m lk rg : Nat} {L L' : Nat → Nat} {X X' : Nat → Nat → Nat → Int} {pl : Nat → Nat → Nat} {mode : Int}
theorem spin_fwd (hR : SpinR n m L X L' X' pl) (hc : COk n L X m lk rg) (hg : rg ≤ 6) (hmode : mode = 0 ∨ mode = 1) {s0 s1 S : Sx} (hnf : NoFall n L X mode s0) (hs : SOk n L m lk rg mode s0) (hf : s0.fell = false) (hb : SSt n m rg L X pl s0 s1) (h : Rch (nxX L' X' mode) s1 S) : ∃ A, Rch (nxX L X mode) s0 A ∧ SSt n m rg L X pl A S := by
  induction h with
  | base => exact ⟨s0, .base, hb⟩
  | step _ ht ih =>
    obtain ⟨A, hA, hI⟩ := ih
    have hok := reach_ok hs hf hc (by omega) hA
    exact hI.step hR hc hg hmode hnf hA hok.1 hok.2 ht
/-- Each end of the program with words is one of the program with locks. -/
theorem spin_out (hR : SpinR n m L X L' X' pl) (hc : COk n L X m lk rg) (hg : rg ≤ 6) (hmode : mode = 0 ∨ mode = 1) {s0 s1 S : Sx} (hnf : NoFall n L X mode s0) (hs : SOk n L m lk rg mode s0) (hf : s0.fell = false) (hb : SSt n m rg L X pl s0 s1) (h : Rch (nxX L' X' mode) s1 S) {o : Oc} (ho : o ∈ outsX L' X' mode S) (h0 : o.st = 0) : ∃ A, Rch (nxX L X mode) s0 A ∧ (⟨0, o.ws.take m, o.pr⟩ : Oc) ∈ outsX L X mode A := by
  obtain ⟨A, hA, hI⟩ := spin_fwd hR hc hg hmode hnf hs hf hb h
  obtain ⟨hok, hAf⟩ := reach_ok hs hf hc (by omega) hA
  refine ⟨A, hA, ?_⟩
  rcases outs_cases hI.fell (hI.wlen hok) ho with ⟨hm, rfl⟩ | ⟨t, _, _, _, rfl⟩
  · have he : endedX L' S = true := by
      cases e : endedX L' S with
      | true => rfl
      | false => rw [e] at h0; cases h0
    have hA0 : endedX L A = true := by
      unfold endedX at he ⊢
      rw [List.all_eq_true] at he ⊢
      intro t ht
      have htn : t < n := by rw [← hok.ths]; simpa using ht
      have h1 := he t (by rw [hI.len]; simpa using htn)
      rw [Bool.and_eq_true] at h1 ⊢
      have hth := hI.th t htn
      have h2 : L' t ≤ (thOf S t).pc := of_decide_eq_true h1.1
      refine ⟨?_, ?_⟩
      · unfold endedT
        apply decide_eq_true
        rcases pos_lt hR htn hth.pos with ⟨_, h3, _⟩ | h3
        · rcases Nat.lt_or_ge (thOf A t).pc (L t) with h4 | h4
          · have := h3 h4; omega
          · exact h4
        · omega
      · have h3 : (thOf S t).wait = [] := List.isEmpty_iff.mp h1.2
        rw [hth.wait] at h3
        rw [List.map_eq_nil_iff.mp h3]
        rfl
    have := outs_end (moves_ended (X := X) (mode := mode) hA0)
    rw [hA0] at this
    show (⟨0, S.words.take m, S.prints⟩ : Oc) ∈ _
    rw [hI.words, hI.prints, ← hok.words, List.take_left]
    exact this
  · cases h0
/-- All threads stand at the first of what their orders became. -/
def AtP (n : Nat) (pl : Nat → Nat → Nat) (A S : Sx) : Prop := ∀ t, t < n → (thOf S t).pc = pl t (thOf A t).pc
theorem thOf_act1 {s : Sx} {t : Nat} (ht : t < s.ths.length) (k : Ak) (u : Nat) : (thOf (actX mode s t k) u).pc = (thOf s u).pc := by
  have hs : ∀ x, (thOf (storeW mode s t x) u).pc = (thOf s u).pc := fun x => by
    unfold storeW
    split
    · rw [thOf_set ht]
      split
      · rename_i e; rw [e]
      · rfl
    · unfold doneW thOf
      split <;> rfl
  cases k with
  | no => rfl
  | put a v => exact hs _
  | free a => exact hs _
  | take a => rfl
  | swap a v => rfl
  | say v => rfl
theorem AtP.act {A S : Sx} (h : AtP n pl A S) (hA : A.ths.length = n) (hS : S.ths.length = n) {t : Nat} (ht : t < n) {a s : Th} (hs : s.pc = pl t a.pc) (k k' : Ak) : AtP n pl (actX mode (setTh A t a) t k) (actX mode (setTh S t s) t k') := fun u hu => by
  rw [thOf_act1 (by simp [setTh, hS, ht]), thOf_act1 (by simp [setTh, hA, ht]), thOf_set (by rw [hS]; exact ht), thOf_set (by rw [hA]; exact ht)]
  by_cases e : u = t
  · rw [if_pos e, if_pos e, e]; exact hs
  · rw [if_neg e, if_neg e]; exact h u hu
/-- A step of the program with locks: the one with words can do the same. -/
theorem SSt.back (hR : SpinR n m L X L' X' pl) (hc : COk n L X m lk rg) (hg : rg ≤ 6) (hmode : mode = 0 ∨ mode = 1) {s1 A A' S : Sx} (hS : Rch (nxX L' X' mode) s1 S) (hok : SOk n L m lk rg mode A) (hAf : A.fell = false) (h : SSt n m rg L X pl A S) (hat : AtP n pl A S) (hn : A' ∈ nxX L X mode A) : ∃ S', Rch (nxX L' X' mode) s1 S' ∧ SSt n m rg L X pl A' S' ∧ AtP n pl A' S' := by
  have hAl := hok.ths
  rcases nx_cases hAf (fun t ht => hok.wlen t (by rw [← hok.ths]; exact ht)) hn with ⟨t, p, rs, k, ht, ha, he, rfl⟩ | ⟨t, k, ht, hk, hmay, rfl⟩
  · have htn : t < n := by rw [← hAl]; exact ht
    have htS : t < S.ths.length := by rw [h.len]; exact htn
    have hth := h.th t htn
    have hl := able_lt ha
    have hp := hat t htn
    have hr8 := hth.rg.1
    by_cases h17 : X t (thOf A t).pc 0 = 17
    · obtain ⟨q0, q1, q2, q3, q4, q5⟩ := hR.lk t _ htn hl h17
      have hwA : (thOf A t).wait = [] := able_13 ha (Or.inr (Or.inr h17))
      have hw : (thOf S t).wait = [] := by rw [hth.wait, hwA]; rfl
      have ho1 := able_17 ha h17
      have ho := hc.ord t _ htn hl
      rw [h17] at ho
      have ok := ok_lock (Or.inl rfl) ho
      have hlk : S.words.getD ((m : Int) + X t (thOf A t).pc 1).toNat 0 = 0 := by
        rw [h.lock hok ok.1 ok.2]
        show lockV (A.own.getD (opT X A t 1).toNat 0) = 0
        rw [ho1]
        rfl
      obtain ⟨j, hj⟩ : ∃ j, pl t (thOf A t).pc = j := ⟨_, rfl⟩
      rw [hj] at q1 q2 q3 q4 q5 hp
      have r1 := rch_eff hS h.fell htS (able_at hp (by omega) q2 (Or.inl rfl)) (eff_const hp q2)
      obtain ⟨S1, hS1⟩ : ∃ V, setTh S t ⟨j + 1, (thOf S t).regs.set 6 0, (thOf S t).wait⟩ = V := ⟨_, rfl⟩
      have t1 : thOf S1 t = ⟨j + 1, (thOf S t).regs.set 6 0, (thOf S t).wait⟩ := by rw [← hS1]; exact th_set htS _
      have l1 : t < S1.ths.length := by rw [← hS1]; simpa [setTh] using htS
      have f1 : S1.fell = false := by rw [← hS1]; exact h.fell
      have r1' : Rch (nxX L' X' mode) s1 S1 := by rw [← hS1]; exact r1
      have r2 := rch_eff r1' f1 l1 (able_at (j := j + 1) (by rw [t1]) (by omega) q3 (Or.inl rfl)) (eff_const (j := j + 1) (by rw [t1]) q3)
      obtain ⟨S2, hS2⟩ : ∃ V, setTh S1 t ⟨j + 1 + 1, ((thOf S1 t).regs).set 7 1, (thOf S1 t).wait⟩ = V := ⟨_, rfl⟩
      have r2' : Rch (nxX L' X' mode) s1 S2 := by rw [← hS2]; exact r2
      have e2 : S2 = setTh S t ⟨j + 2, ((thOf S t).regs.set 6 0).set 7 1, []⟩ := by rw [← hS2, t1, ← hS1, set_set, hw]
      have t2 : thOf S2 t = ⟨j + 2, ((thOf S t).regs.set 6 0).set 7 1, []⟩ := by rw [e2]; exact th_set htS _
      have l2 : t < S2.ths.length := by rw [e2]; simpa [setTh] using htS
      have f2 : S2.fell = false := by rw [e2]; exact h.fell
      have w2 : S2.words = S.words := by rw [e2]; rfl
      have g6 : (((thOf S t).regs.set 6 0).set 7 1).getD 6 0 = 0 := by rw [get_set_far (by omega)]; exact get_set_same (by omega) _
      have g7 : (((thOf S t).regs.set 6 0).set 7 1).getD 7 0 = 1 := get_set_same (by rw [List.length_set]; omega) _
      have hc2 := eff_cas (X := X') (s := S2) (t := t) (j := j + 2) (by rw [t2]) (by rw [t2]) q4
      rw [w2, hlk, t2, show ((6 : Int)).toNat = 6 from rfl, show ((7 : Int)).toNat = 7 from rfl] at hc2
      simp only at hc2
      rw [g6, g7, if_pos rfl] at hc2
      have r3 := rch_eff r2' f2 l2 (able_at (j := j + 2) (by rw [t2]) (by omega) q4 (Or.inr (Or.inr (Or.inl ⟨rfl, by rw [t2]⟩)))) hc2
      obtain ⟨S3, hS3⟩ : ∃ V, actX mode (setTh S2 t ⟨j + 2 + 1, ((((thOf S t).regs.set 6 0).set 7 1).set 6 1), (thOf S2 t).wait⟩) t (.swap ((m : Int) + X t (thOf A t).pc 1) 1) = V := ⟨_, rfl⟩
      rw [hS3] at r3
      have e3 : S3 = { setTh S t ⟨j + 3, (((thOf S t).regs.set 6 0).set 7 1).set 6 1, []⟩ with words := S.words.set ((m : Int) + X t (thOf A t).pc 1).toNat 1 } := by
        rw [← hS3, t2, e2, set_set]
        rfl
      have t3 : thOf S3 t = ⟨j + 3, (((thOf S t).regs.set 6 0).set 7 1).set 6 1, []⟩ := by
        rw [e3]
        exact th_set (s := S) htS _
      have l3 : t < S3.ths.length := by rw [e3]; simpa [setTh] using htS
      have f3 : S3.fell = false := by rw [e3]; exact h.fell
      have g3 : ((((thOf S t).regs.set 6 0).set 7 1).set 6 1).getD 6 0 = 1 := get_set_same (by rw [List.length_set, List.length_set]; omega) _
      have hz := eff_zero (X := X') (s := S3) (t := t) (j := j + 3) (by rw [t3]) q5
      rw [t3, show ((6 : Int)).toNat = 6 from rfl] at hz
      simp only at hz
      rw [g3, if_neg (by decide)] at hz
      have r4 := rch_eff r3 f3 l3 (able_at (j := j + 3) (by rw [t3]) (by omega) q5 (Or.inr (Or.inl rfl))) hz
      obtain ⟨e1, e4⟩ := h.takes (mode := mode) hc hok htn hl h17 (p' := j + 4) (r' := (((thOf S t).regs.set 6 0).set 7 1).set 6 1) ⟨((hth.rg.far hg _).far (by omega) _).far hg _, hth.wait, Or.inl (by show j + 4 = _; rw [q0, hj])⟩
      rw [e1] at he
      cases he
      have e5 : actX mode (setTh S3 t ⟨j + 3 + 1, (((thOf S t).regs.set 6 0).set 7 1).set 6 1, (thOf S3 t).wait⟩) t .no = actX mode (setTh S t ⟨j + 4, (((thOf S t).regs.set 6 0).set 7 1).set 6 1, (thOf S t).wait⟩) t (.swap ((m : Int) + opT X A t 1) 1) := by
        rw [t3, e3, hw]
        unfold actX setTh
        simp only [List.set_set]
        rfl
      rw [e5] at r4
      exact ⟨_, r4, e4, hat.act hAl h.len htn (by show j + 4 = pl t _; rw [q0, hj]) _ _⟩
    by_cases h18 : X t (thOf A t).pc 0 = 18
    · obtain ⟨q0, q1, q2, q3⟩ := hR.ul t _ htn hl h18
      obtain ⟨j, hj⟩ : ∃ j, pl t (thOf A t).pc = j := ⟨_, rfl⟩
      rw [hj] at q1 q2 q3 hp
      have hwl : (thOf S t).wait.length < 3 := by
        have h1 : (thOf A t).wait.length < 3 := by
          unfold ableT at ha
          rw [show opT X A t 0 = 18 from h18] at ha
          split at ha
          · cases ha
          · simp only [or_true, ↓reduceIte] at ha
            exact of_decide_eq_true ha
        rw [hth.wait, List.length_map]
        exact h1
      have r1 := rch_eff hS h.fell htS (able_at hp (by omega) q2 (Or.inl rfl)) (eff_const hp q2)
      obtain ⟨S1, hS1⟩ : ∃ V, setTh S t ⟨j + 1, (thOf S t).regs.set 6 0, (thOf S t).wait⟩ = V := ⟨_, rfl⟩
      have t1 : thOf S1 t = ⟨j + 1, (thOf S t).regs.set 6 0, (thOf S t).wait⟩ := by rw [← hS1]; exact th_set htS _
      have l1 : t < S1.ths.length := by rw [← hS1]; simpa [setTh] using htS
      have f1 : S1.fell = false := by rw [← hS1]; exact h.fell
      have r1' : Rch (nxX L' X' mode) s1 S1 := by rw [← hS1]; exact r1
      have g6 : ((thOf S t).regs.set 6 0).getD 6 0 = 0 := get_set_same (by omega) _
      have hz := eff_store (X := X') (s := S1) (t := t) (j := j + 1) (by rw [t1]) q3
      rw [t1, show ((6 : Int)).toNat = 6 from rfl] at hz
      simp only at hz
      rw [g6] at hz
      have r2 := rch_eff r1' f1 l1 (able_at (j := j + 1) (by rw [t1]) (by omega) q3 (Or.inr (Or.inr (Or.inr ⟨rfl, by rw [t1]; exact hwl⟩)))) hz
      obtain ⟨e1, e4⟩ := h.frees (mode := mode) hc hok htn hl h18 (by rw [he]; exact fun e => by cases e) (p' := j + 2) (r' := (thOf S t).regs.set 6 0) ⟨hth.rg.far hg _, hth.wait, Or.inl (by show j + 2 = _; rw [q0, hj])⟩
      rw [e1] at he
      cases he
      have e5 : setTh S1 t ⟨j + 1 + 1, (thOf S t).regs.set 6 0, (thOf S1 t).wait⟩ = setTh S t ⟨j + 2, (thOf S t).regs.set 6 0, (thOf S t).wait⟩ := by rw [t1, ← hS1, set_set]
      rw [e5] at r2
      exact ⟨_, r2, e4, hat.act hAl h.len htn (by show j + 2 = pl t _; rw [q0, hj]) _ _⟩
    obtain ⟨e1, e2⟩ := h.plain hR hc hg hok htn hp hl h17 h18
    obtain ⟨r', e4, _, e5⟩ := e2 p rs k he
    exact ⟨_, rch_eff hS h.fell htS (e1.trans ha) e4, e5, hat.act hAl h.len htn rfl _ _⟩
  · have htn : t < n := by rw [← hAl]; exact ht
    have htS : t < S.ths.length := by rw [h.len]; exact htn
    have hth := h.th t htn
    have hk0 : k = 0 := by
      rcases hmode with e | e
      · have := hok.bare e t htn
        rw [this] at hk
        cases hk
      · unfold mayW at hmay
        by_cases e0 : k = 0
        · exact e0
        · rw [if_neg e0, if_pos (Or.inl e)] at hmay
          cases hmay
    subst hk0
    have hne : (thOf S t).wait ≠ [] := fun e => by
      rw [hth.wait] at e
      rw [List.map_eq_nil_iff.mp e] at hk
      cases hk
    have hr := rch_fin hS htS hne h.fell
    rw [doX_wait (k := 0) (by omega)] at hr
    refine ⟨_, hr, h.fin hok htn hk, fun u hu => ?_⟩
    have hd : ∀ (Z : Sx) x, (doneW Z x).ths = Z.ths := fun Z x => by unfold doneW; split <;> rfl
    have hu' : ∀ (Z : Sx) x, thOf (doneW Z x) u = thOf Z u := fun Z x => by unfold thOf; rw [hd]
    rw [thOf_set (by rw [hd]; exact htS), thOf_set (by rw [hd]; exact ht), hu', hu']
    by_cases e : u = t
    · rw [if_pos e, if_pos e, e]; exact hat t htn
    · rw [if_neg e, if_neg e]; exact hat u hu
theorem spin_bwd (hR : SpinR n m L X L' X' pl) (hc : COk n L X m lk rg) (hg : rg ≤ 6) (hmode : mode = 0 ∨ mode = 1) {s0 s1 A : Sx} (hs : SOk n L m lk rg mode s0) (hf : s0.fell = false) (hb : SSt n m rg L X pl s0 s1) (hat : AtP n pl s0 s1) (h : Rch (nxX L X mode) s0 A) : ∃ S, Rch (nxX L' X' mode) s1 S ∧ SSt n m rg L X pl A S ∧ AtP n pl A S := by
  induction h with
  | base => exact ⟨s1, .base, hb, hat⟩
  | step hA ht ih =>
    obtain ⟨S, hS, hI, hP⟩ := ih
    have hok := reach_ok hs hf hc (by omega) hA
    exact hI.back hR hc hg hmode hS hok.1 hok.2 hP ht
/-- Each end of the program with locks is one of the program with words. -/
theorem spin_back (hR : SpinR n m L X L' X' pl) (hc : COk n L X m lk rg) (hg : rg ≤ 6) (hmode : mode = 0 ∨ mode = 1) {s0 s1 A : Sx} (hs : SOk n L m lk rg mode s0) (hf : s0.fell = false) (hb : SSt n m rg L X pl s0 s1) (hat : AtP n pl s0 s1) (h : Rch (nxX L X mode) s0 A) {o : Oc} (ho : o ∈ outsX L X mode A) (h0 : o.st = 0) : o.ws.length = m ∧ ∃ S, Rch (nxX L' X' mode) s1 S ∧ ∃ q, q ∈ outsX L' X' mode S ∧ q.st = 0 ∧ q.ws.take m = o.ws ∧ q.pr = o.pr := by
  obtain ⟨hok, hAf⟩ := reach_ok hs hf hc (by omega) h
  obtain ⟨S, hS, hI, hP⟩ := spin_bwd hR hc hg hmode hs hf hb hat h
  rcases outs_cases hAf (fun t ht => hok.wlen t (by rw [← hok.ths]; exact ht)) ho with ⟨hm, rfl⟩ | ⟨t, _, _, _, rfl⟩
  · have he : endedX L A = true := by
      cases e : endedX L A with
      | true => rfl
      | false => rw [e] at h0; cases h0
    have hS0 : endedX L' S = true := by
      unfold endedX at he ⊢
      rw [List.all_eq_true] at he ⊢
      intro t ht
      have htn : t < n := by rw [← hI.len]; simpa using ht
      have h1 := he t (by rw [hok.ths]; simpa using htn)
      rw [Bool.and_eq_true] at h1 ⊢
      have hth := hI.th t htn
      have h2 : L t ≤ (thOf A t).pc := of_decide_eq_true h1.1
      have h3 := hok.pc t htn
      have e1 : (thOf A t).pc = L t := by omega
      refine ⟨?_, ?_⟩
      · unfold endedT
        rw [hP t htn, e1, hR.e t htn]
        exact decide_eq_true (Nat.le_refl _)
      · rw [hth.wait, List.isEmpty_iff.mp h1.2]
        rfl
    refine ⟨hok.words, S, hS, _, outs_end (moves_ended (X := X') (mode := mode) hS0), by rw [hS0]; rfl, ?_, hI.prints⟩
    show S.words.take m = A.words
    rw [hI.words, ← hok.words, List.take_left]
  · cases h0
end
end

section
open Go.RowKit

theorem begin_at (n : Nat) (words : List Int) (lk rg : Int) (t : Nat) (ht : t < n) : thOf (beginX n words lk rg) t = ⟨0, List.replicate rg.toNat 0, []⟩ := by
  unfold thOf beginX
  simp [List.getD, ht]
/-- Ahead of the first step. -/
theorem spin_begin {n : Nat} {L : Nat → Nat} {X : Nat → Nat → Nat → Int} {pl : Nat → Nat → Nat} (hz : ∀ t, t < n → pl t 0 = 0) (words : List Int) (lk rg : Nat) : SSt n words.length rg L X pl (beginX n words lk rg) (beginX n (words ++ List.replicate lk 0) 0 8) ∧ AtP n pl (beginX n words lk rg) (beginX n (words ++ List.replicate lk 0) 0 8) := by
  refine ⟨⟨by simp [beginX], ?_, rfl, rfl, fun t ht => ?_⟩, fun t ht => ?_⟩
  · show words ++ List.replicate lk 0 = words ++ (List.replicate (lk : Int).toNat (-1)).map lockV
    rw [List.map_replicate]
    rfl
  · rw [begin_at n words lk rg t ht, begin_at n _ 0 8 t ht]
    refine ⟨⟨rfl, fun r _ => ?_⟩, rfl, Or.inl ?_⟩
    · have e : ∀ k : Nat, (List.replicate k (0 : Int)).getD r 0 = 0 := fun k => by
        rw [List.getD_eq_getElem?_getD, List.getElem?_replicate]
        split <;> rfl
      exact (e _).trans (e _).symm
    · show 0 = pl t 0
      rw [hz t ht]
  · rw [begin_at n words lk rg t ht, begin_at n _ 0 8 t ht]
    show 0 = pl t 0
    rw [hz t ht]
/-- Where no outcome is one that fell, nobody falls. -/
theorem told_noFall {n : Nat} {L : Nat → Nat} {X : Nat → Nat → Nat → Int} {words : List Int} {lk rg : Nat} {mx : Nat} {c : List Oc} (hc : COk n L X words.length lk rg) (ht : Told (nxX L X 1) (outsX L X 1) (beginX n words lk rg) mx false c) (hf : ∀ o, o ∈ c → o.st ≠ 1) {mode : Int} (hm : mode = 0 ∨ mode = 1) : NoFall n L X mode (beginX n words lk rg) := by
  rcases ht with ⟨e, _⟩ | ⟨_, _, mc, _⟩
  · cases e
  intro A hA t ht ha he
  rcases hm with rfl | rfl
  · have h0 := reach_ok (begin_ok (L := L)) rfl hc (by decide) hA
    have ho := outs_fall (mode := 0) (by rw [h0.1.ths]; exact ht) ha he
    exact hf _ ((mc _).2 ⟨A, reach_more begin_ok rfl hc hA, outs_more begin_ok rfl hc hA ho⟩) rfl
  · have h0 := reach_ok (begin_ok (L := L)) rfl hc (by decide) hA
    exact hf _ ((mc _).2 ⟨A, hA, outs_fall (mode := 1) (by rw [h0.1.ths]; exact ht) ha he⟩) rfl
section
variable {n : Nat} {L : Nat → Nat} {X : Nat → Nat → Nat → Int} {words : List Int} {lk rg : Nat} {mx : Nat} {mode : Int}
/-- Words of an outcome that is Done. -/
theorem told_words (hc : COk n L X words.length lk rg) (hm : 0 ≤ mode) {a : List Oc} (ht : Told (nxX L X mode) (outsX L X mode) (beginX n words lk rg) mx false a) {o : Oc} (ho : o ∈ a) (h0 : o.st = 0) : o.ws.length = words.length := by
  rcases ht with ⟨e, _⟩ | ⟨_, _, ma, _⟩
  · cases e
  obtain ⟨A, hA, h1⟩ := (ma o).1 ho
  have hok := reach_ok (begin_ok (L := L)) rfl hc hm hA
  rcases outs_cases hok.2 (fun t ht => hok.1.wlen t (by rw [← hok.1.ths]; exact ht)) h1 with ⟨_, rfl⟩ | ⟨t, _, _, _, rfl⟩
  · exact hok.1.words
  · cases h0
/-- What is Done with words in place of locks is Done with locks, and the other way round. -/
theorem spin_told (hc : COk n L X words.length lk rg) (hg : rg ≤ 6) (hm : mode = 0 ∨ mode = 1) (hnf : NoFall n L X mode (beginX n words lk rg)) {a b : List Oc} (ha : Told (nxX L X mode) (outsX L X mode) (beginX n words lk rg) mx false a)
    (hb : Told (nxX (lenR (bSpin words.length X) L) (numR (bSpin words.length X) L) mode) (outsX (lenR (bSpin words.length X) L) (numR (bSpin words.length X) L) mode) (beginX n (words ++ List.replicate lk 0) 0 8) mx false b) :
    (∀ o, o ∈ b → o.st = 0 → (⟨0, o.ws.take words.length, o.pr⟩ : Oc) ∈ a) ∧ ∀ o, o ∈ a → o.st = 0 → ∃ q, q ∈ b ∧ q.st = 0 ∧ q.ws.take words.length = o.ws ∧ q.pr = o.pr := by
  have hR := spin_rel n words.length L X
  obtain ⟨hb0, hat⟩ := spin_begin (L := L) (X := X) hR.z words lk rg
  rcases ha with ⟨e, _⟩ | ⟨_, _, ma, _⟩
  · cases e
  rcases hb with ⟨e, _⟩ | ⟨_, _, mb, _⟩
  · cases e
  refine ⟨fun o ho h0 => ?_, fun o ho h0 => ?_⟩
  · obtain ⟨S, hS, h1⟩ := (mb o).1 ho
    exact (ma _).2 (spin_out hR hc hg hm hnf begin_ok rfl hb0 hS h1 h0)
  · obtain ⟨A, hA, h1⟩ := (ma o).1 ho
    obtain ⟨_, S, hS, q, hq, h2⟩ := spin_back hR hc hg hm begin_ok rfl hb0 hat hA h1 h0
    exact ⟨q, (mb q).2 ⟨S, hS, hq⟩, h2⟩
end
end

section
open Go.RowKit Go.Sort

set_option maxRecDepth 100000 in
set_option maxHeartbeats 3200000 in
/-- compare. -/
theorem compare_any (w : World) (x y : En) (hx : EnOk w x) (hy : EnOk w y) :
    Calls Tryz.prog 56 #[enV x, enV y] w fun e w' => e = .returned (.int .i64 (cmpO x.o y.o)) ∧ ∃ q os', w' = grow (w.drewN q) os' := by
  obtain ⟨⟨⟨st, ws, pr⟩, wa, wc, pa, pc⟩, rfl⟩ : ∃ z, x = z := ⟨_, rfl⟩
  obtain ⟨⟨⟨st2, ws2, pr2⟩, wa2, wc2, pa2, pc2⟩, rfl⟩ : ∃ z, y = z := ⟨_, rfl⟩
  have hup : ∀ W, Below w.heap.size w W → LI W wa ws ∧ LI W pa pr ∧ LI W wa2 ws2 ∧ LI W pa2 pr2 := fun W hb => ⟨(hx.below hb).ws, (hx.below hb).pr, (hy.below hb).ws, (hy.below hb).pr⟩
  have l1 : ws.length ≤ 100000 := hx.wl
  have l2 : pr.length ≤ 100000 := hx.pl
  have l3 : ws2.length ≤ 100000 := hy.wl
  have l4 : pr2.length ≤ 100000 := hy.pl
  obtain ⟨c1, hc1⟩ : ∃ z, cmpI st st2 = z := ⟨_, rfl⟩
  obtain ⟨c2, hc2⟩ : ∃ z, cmpL ws ws2 = z := ⟨_, rfl⟩
  obtain ⟨c3, hc3⟩ : ∃ z, cmpL pr pr2 = z := ⟨_, rfl⟩
  have HC1 : Hid (∀ W, Calls Tryz.prog 73 #[.int .i64 st, .int .i64 st2] W fun e w' => e = .returned (.int .i64 c1) ∧ w' = W) := fun W => by
    have := ccmp_any st st2 W
    rwa [hc1] at this
  have HC2 : Hid (∀ W, Below w.heap.size w W → Calls Tryz.prog 74 #[.slice wa ws.length wc, .slice wa2 ws2.length wc2] W fun e w' => e = .returned (.int .i64 c2) ∧ w' = W) := fun W hb => by
    have := scmp_any wa wa2 ws ws2 wc wc2 l1 l3 W (hup W hb).1 (hup W hb).2.2.1
    rwa [hc2] at this
  have HC3 : Hid (∀ W, Below w.heap.size w W → Calls Tryz.prog 74 #[.slice pa pr.length pc, .slice pa2 pr2.length pc2] W fun e w' => e = .returned (.int .i64 c3) ∧ w' = W) := fun W hb => by
    have := scmp_any pa pa2 pr pr2 pc pc2 l2 l4 W (hup W hb).2.1 (hup W hb).2.2.2
    rwa [hc3] at this
  have HRES : Hid (cmpO ⟨st, ws, pr⟩ ⟨st2, ws2, pr2⟩ = orI c1 c2 c3) := by show _ = _; unfold cmpO; rw [hc1, hc2, hc3]
  rw [show cmpO (En.mk ⟨st, ws, pr⟩ wa wc pa pc).o (En.mk ⟨st2, ws2, pr2⟩ wa2 wc2 pa2 pc2).o = orI c1 c2 c3 from HRES.out]
  show Calls Tryz.prog 56 #[ocV st wa ws.length wc pa pr.length pc, ocV st2 wa2 ws2.length wc2 pa2 pr2.length pc2] w _
  obtain ⟨n1, hn1⟩ : ∃ n, ws.length = n := ⟨_, rfl⟩
  obtain ⟨n2, hn2⟩ : ∃ n, pr.length = n := ⟨_, rfl⟩
  obtain ⟨n3, hn3⟩ : ∃ n, ws2.length = n := ⟨_, rfl⟩
  obtain ⟨n4, hn4⟩ : ∃ n, pr2.length = n := ⟨_, rfl⟩
  rw [hn1, hn2, hn3, hn4]
  rw [hn1, hn3] at HC2
  rw [hn2, hn4] at HC3
  have HB : Hid (∀ A B, Below w.heap.size w ((w.alloc A).alloc B).drew) := fun A B => (((Below.refl _ _).alloc (Nat.le_refl _) _).alloc (by simp) _).drew
  obtain ⟨R, hR⟩ : ∃ R, orI c1 c2 c3 = R := ⟨_, rfl⟩
  have HOR : Hid (∀ g W, W.cell? ⟨g, 0, none⟩ = some (.int .i64 c1) → W.cell? ⟨g, 1, none⟩ = some (.int .i64 c2) → W.cell? ⟨g, 2, none⟩ = some (.int .i64 c3) → Calls Tryz.prog 72 #[.slice (some ⟨g, 0, none⟩) 3 3] W fun e w' => e = .returned (.int .i64 R) ∧ w' = W) := fun g W h0 h1 h2 => by
    have := or_any g c1 c2 c3 W h0 h1 h2
    rwa [hR] at this
  rw [hR]
  clear hx hy hup l1 l2 l3 l4 hc1 hc2 hc3 HRES hn1 hn2 hn3 hn4 hR
  go_enter Tryz.func56, Tryz.ntmps56
  go_wp2_with fail
  refine region_tail 15 (by kernel_rfl) (by kernel_rfl) ?_
  simp only [List.take_succ_cons, List.take_zero, List.drop_succ_cons, List.drop_zero]
  repeat still_step
  still_call (HC1.out _)
  repeat still_step
  still_call (HC2.out _ (HB.out _ _))
  repeat still_step
  still_call (HC3.out _ (HB.out _ _))
  repeat still_step
  refine wpStill_nil ?_
  go_wp2_with fail
  refine Calls.mono (HOR.out _ _ (by go_simp) (by go_simp) (by go_simp)) ?_
  rintro e w1 ⟨rfl, rfl⟩
  go_wp2_with fail
  go_ret
  exact ⟨rfl, 1, #[.cells #[.int .i64 st, .slice wa n1 wc, .slice pa n2 pc] 46, .cells #[.int .i64 st2, .slice wa2 n3 wc2, .slice pa2 n4 pc2] 46, .cells #[.int .i64 c1, .int .i64 c2, .int .i64 c3] 3], by rw [alloc_eq_grow, alloc_eq_grow, alloc_eq_grow, grow_grow, grow_grow]; rfl⟩
end

section
open Go.RowKit Go.Sort Go.Shelf

/-- An outcome's cells. -/
def encE (e : En) : List Value := [.int .i64 e.o.st, .slice e.wa e.o.ws.length e.wc, .slice e.pa e.o.pr.length e.pc]
/-- Its lists lie outside of a block. -/
structure EnX (w : World) (blk : Nat) (e : En) : Prop where
  ok : EnOk w e
  wx : ∀ p, e.wa = some p → 0 < e.o.ws.length → p.block ≠ blk
  px : ∀ p, e.pa = some p → 0 < e.o.pr.length → p.block ≠ blk
abbrev EnS (w : World) (blk : Nat) : Type := {e : En // EnX w blk e}
instance (w : World) (blk : Nat) : Inhabited (EnS w blk) :=
  ⟨⟨default, ⟨⟨fun _ h => absurd h (Nat.not_lt_zero _), fun _ h => absurd h (Nat.not_lt_zero _), Nat.zero_le _, Nat.zero_le _⟩, fun _ _ h => absurd h (Nat.lt_irrefl 0), fun _ _ h => absurd h (Nat.lt_irrefl 0)⟩⟩⟩
abbrev encS {w : World} {blk : Nat} (x : EnS w blk) : List Value := encE x.1
abbrev cmpS {w : World} {blk : Nat} (x y : EnS w blk) : Int := cmpO x.1.o y.1.o
theorem sortW_cell {α : Type} [Inhabited α] (enc : α → List Value) (w : World) (blk m : Nat) (d : Array α) (os : Array Obj) (p : Addr) (hp : p.block ≠ blk) (hl : p.block < w.heap.size) : (sortWorldK enc 3 w blk 0 m d os).cell? p = w.cell? p := by
  unfold sortWorldK
  rw [cell?_grow _ _ _ (by rw [size_putRowK]; exact hl), cell?_putRowK_other _ _ _ _ _ _ _ hp, cell?_ahead]
theorem LI.sortW {α : Type} [Inhabited α] {enc : α → List Value} {w : World} {blk m : Nat} {d : Array α} {os : Array Obj} {a : Option Addr} {x : List Int} (h : LI w a x) (hx : ∀ p, a = some p → 0 < x.length → p.block ≠ blk) : LI (sortWorldK enc 3 w blk 0 m d os) a x := fun i hi => by
  obtain ⟨b, o, h1, h2⟩ := h i hi
  exact ⟨b, o, h1, (sortW_cell enc w blk m d os ⟨b, o + i, none⟩ (hx ⟨b, o, none⟩ h1 (by omega) : b ≠ blk) (lt_of_cell h2)).trans h2⟩
theorem cmpLays_oc (w : World) (blk n : Nat) : CmpLays Tryz.prog 56 #[] (encS (w := w) (blk := blk)) 3 cmpS blk 0 n w := fun m os dk _ x y => by
  have h := compare_any (sortWorldK encS 3 w blk 0 m dk os) x.1 y.1 ⟨LI.sortW x.2.ok.ws x.2.wx, LI.sortW x.2.ok.pr x.2.px, x.2.ok.wl, x.2.ok.pl⟩ ⟨LI.sortW y.2.ok.ws y.2.wx, LI.sortW y.2.ok.pr y.2.px, y.2.ok.wl, y.2.ok.pl⟩
  exact h
theorem ltS {w : World} {blk : Nat} (x y : EnS w blk) : ltOf cmpS x y = aheadO x.1.o y.1.o := by
  unfold ltOf
  rw [Bool.eq_iff_iff, decide_eq_true_iff]
  exact (cmpO_ahead _ _).1
theorem swo_oc (w : World) (blk : Nat) : SWO (ltOf (cmpS (w := w) (blk := blk))) where
  irrefl x := by rw [ltS]; exact ahead_irr _
  trans x y z h1 h2 := by rw [ltS] at *; exact ahead_trans h1 h2
  ntrans x y z h1 h2 := by
    rw [ltS] at *
    cases h3 : aheadO x.1.o z.1.o with
    | false => rfl
    | true =>
      cases h4 : aheadO y.1.o x.1.o with
      | false =>
        have e := ahead_tri h1 h4
        rw [e] at h3
        rw [h3] at h2; cases h2
      | true =>
        have := ahead_trans h4 h3
        rw [this] at h2; cases h2
/-- A row that is laid anew. -/
theorem own_put {w : World} {B g cap : Nat} {e : TypeId} {size n : Nat} {xs : List Value} (h : w.ownsRow B e size (.slice (some ⟨g, 0, none⟩) n cap) n xs) (F : Array Value) (hF : F.size = n * size) (m : Nat) (os : Array Obj) : (grow (putRow id (Go.Sort.ahead w m) g 0 F) os).ownsRow B e size (.slice (some ⟨g, 0, none⟩) n cap) n F.toList := by
  refine ⟨by simpa using hF, ?_⟩
  rcases h.2 with ⟨h0, _⟩ | ⟨g', cap', cur, hv, hg, hh, h1, h2, h3, _⟩
  · cases h0
  · simp only [Value.slice.injEq, Option.some.injEq, Addr.mk.injEq, and_true, true_and] at hv
    obtain ⟨rfl, rfl⟩ := hv
    refine Or.inr ⟨g, cap, putCells id 0 F cur, rfl, hg, ?_, h1, h2, by simp [putCells, h3], ?_⟩
    · have hl : g < (putRow id (Go.Sort.ahead w m) g 0 F).heap.size := by rw [Go.Sort.size_putRow]; exact box_lt hh
      rw [heap_grow_old _ _ hl]
      unfold putRow mapBlock
      simp only [Array.getElem?_modify, if_true]
      show Option.map (onCells _) (w.heap[g]?) = _
      rw [hh]; rfl
    · have hle : n * size ≤ cap * size := Nat.mul_le_mul_right _ h1
      refine List.ext_getElem? fun k => ?_
      rw [List.getElem?_take]
      split
      · rename_i hk
        simp only [putCells, Array.getElem?_toList, Array.getElem?_mapIdx]
        rw [Array.getElem?_eq_getElem (by omega), Option.map_some, if_pos ⟨Nat.zero_le _, by omega⟩, Nat.sub_zero, Array.getElem?_eq_getElem (by omega), getElem!_pos F k (by omega)]
        rfl
      · rename_i hk
        rw [Array.getElem?_toList, Array.getElem?_eq_none (by omega)]
theorem encE_at (e : En) (j : Nat) (hj : j < 3) : (encE e)[j]! = enC e j := by
  rcases (by omega : j = 0 ∨ j = 1 ∨ j = 2) with rfl | rfl | rfl <;> rfl
theorem flat_ens {w : World} {blk : Nat} (d : Array (EnS w blk)) : (flatK encS 3 d).toList = ensV (d.toList.map Subtype.val) := by
  refine List.ext_getElem? fun k => ?_
  unfold ensV
  rw [rows3_at, List.length_map, Array.length_toList]
  split
  · rename_i hk
    rw [Array.getElem?_toList, Array.getElem?_eq_getElem (by rw [size_flatK]; exact hk)]
    have h1 := get_flatK encS 3 d k hk
    rw [getElem!_pos _ k (by rw [size_flatK]; exact hk)] at h1
    have hq : k / 3 < d.size := by omega
    rw [h1, encE_at _ _ (by omega), getElem!_pos d (k / 3) hq]
    congr 2
    rw [List.getD_eq_getElem?_getD, List.getElem?_map, Array.getElem?_toList, Array.getElem?_eq_getElem hq]
    rfl
  · rename_i hk
    rw [Array.getElem?_toList, Array.getElem?_eq_none (by rw [size_flatK]; omega)]
/-- What stays when a row is sorted. -/
structure Srt (B : Nat) (w w' : World) (a : Option Addr) : Prop where
  below : Below B w w'
  kept : ∀ k, k < w.heap.size → (∀ p, a = some p → p.block ≠ k) → w'.heap[k]? = w.heap[k]?
set_option maxRecDepth 100000 in
/-- slices.SortFunc(list, compare). -/
theorem sort_any (w : World) (B : Nat) (a : Option Addr) (c : Nat) (es : List En) (h : IsO w B a es.length c es) (hX : ∀ e, e ∈ es → ∀ p, a = some p → EnX w p.block e) (hB : B ≤ w.heap.size) (hl : es.length ≤ 100000) (h0 : 0 < es.length) :
    Calls Tryz.prog 55 #[.slice a es.length c, .func (.func 56) #[] #[]] w fun e w' => e = .returned (.tuple #[]) ∧ ∃ es', es'.Perm es ∧ es'.Pairwise (fun x y => aheadO y.o x.o = false) ∧ IsO w' B a es.length c es' ∧ Srt B w w' a := by
  obtain ⟨g, cap, h1, h2, h3, h4⟩ := fam_block h.own h0
  simp only [Value.slice.injEq, true_and] at h1
  obtain ⟨rfl, h5⟩ := h1
  have hX' : ∀ e, e ∈ es → EnX w g e := fun e he => hX e he _ rfl
  obtain ⟨d, hd⟩ : ∃ d : Array (EnS w g), d.toList.map Subtype.val = es := ⟨(es.pmap Subtype.mk hX').toArray, by simp [List.map_pmap]⟩
  have hds : d.size = es.length := by rw [← hd]; simp
  have hH : HoldsK encS 3 w g 0 d := fun j hj => by
    have hf := flat_ens d
    rw [hd] at hf
    have hj' : j < (flatK encS 3 d).toList.length := by simpa using hj
    have e1 : (ensV es)[j]? = some (flatK encS 3 d)[j]! := by
      rw [← hf, Array.getElem?_toList, Array.getElem?_eq_getElem hj, getElem!_pos _ j hj]
    rw [Nat.zero_add]
    refine ⟨fam_cell h.own h2 e1, ?_⟩
    exact fam_frozen h.own h2 j
  have hcon := AnyQ.slices_SortFunc (P := Tryz.prog) Tryz.sortOc 3 Tryz.isAgg46 Tryz.sizeOf46 (encS (w := w) (blk := g)) (fun _ => rfl) (fun x v hv => by simp [encE] at hv; rcases hv with rfl | rfl | rfl <;> rfl) cmpS (swo_oc w g) 56 #[] g 0 c d w (enters_of Tryz.func56 (by kernel_rfl) rfl) (cmpLays_oc w g d.size) hH h4 (by omega)
  rw [hds] at hcon
  refine Calls.mono hcon ?_
  rintro e w' ⟨rfl, d', n, os, hp, hs, rfl⟩
  have hsz : d'.size = es.length := by rw [hp.1, hds]
  refine ⟨rfl, d'.toList.map Subtype.val, ?_, ?_, ⟨by simp [hsz], ?_⟩, ⟨?_, ?_⟩⟩
  · have := hp.2.2
    rw [← hds, Array.extract_size] at this
    rw [← hd]
    have e2 : d'.extract 0 d.size = d' := by rw [← hp.1, Array.extract_size]
    rw [e2] at this
    exact this.map _
  · rw [List.pairwise_map, List.pairwise_iff_getElem]
    intro i j hi hj hij
    have h7 := hs i j (Nat.zero_le _) hij (by simpa [hsz] using hj)
    rw [ltS, getElem!_pos d' i (by simpa using hi), getElem!_pos d' j (by simpa using hj)] at h7
    simpa using h7
  · have h6 := own_put h.own (flatK encS 3 d') (by rw [size_flatK, hsz]) n os
    rw [flat_ens] at h6
    exact h6
  · refine ⟨rfl, rfl, rfl, ?_, fun k hk => ?_⟩
    · unfold sortWorldK
      rw [size_grow, size_putRowK]
      exact Nat.le_add_right _ _
    · unfold sortWorldK putRowK
      rw [heap_grow_old _ _ (by rw [Go.Sort.size_putRow]; exact Nat.lt_of_lt_of_le hk hB)]
      unfold putRow mapBlock
      simp only [Array.getElem?_modify, if_neg (show g ≠ k by omega)]
      rfl
  · intro k hk hne
    have hne' : g ≠ k := hne _ rfl
    unfold sortWorldK putRowK
    rw [heap_grow_old _ _ (by rw [Go.Sort.size_putRow]; exact hk)]
    unfold putRow mapBlock
    simp only [Array.getElem?_modify, if_neg hne']
    rfl
end

end Go.Proofs.YtefnmbnakphhfadGreatDoor
