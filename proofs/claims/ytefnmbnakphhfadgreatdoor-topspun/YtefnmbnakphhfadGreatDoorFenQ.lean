/-
  A program with a fence behind each order that lets something wait: each of its steps is one of the plain program, or none. Plain functions.
  WITH A FENCE BEHIND EACH STORE nothing that waits is seen: the outcomes are those of the plain program without stores that wait. Plain functions.
-/
import Derived.Test.YtefnmbnakphhfadGreatDoorEffP
namespace Go.Proofs.YtefnmbnakphhfadGreatDoor
section
open Go.RowKit

/-- One program is the other with a fence behind each order that lets something wait. pl: the new place of each order, and of the one behind the last. -/
structure FullR (n : Nat) (L : Nat → Nat) (X : Nat → Nat → Nat → Int) (L' : Nat → Nat) (X' : Nat → Nat → Nat → Int) (pl : Nat → Nat → Nat) : Prop where
  z : ∀ t, t < n → pl t 0 = 0
  e : ∀ t, t < n → pl t (L t) = L' t
  lt : ∀ t i, t < n → i < L t → pl t i < L' t
  mv : ∀ t i, t < n → i < L t → MovO (pl t) (X t i 0) (X t i 1) (X t i 2) (X t i 3) (X' t (pl t i) 0) (X' t (pl t i) 1) (X' t (pl t i) 2) (X' t (pl t i) 3)
  nx : ∀ t i, t < n → i < L t → wtO (X t i 0) = false → pl t (i + 1) = pl t i + 1
  st : ∀ t i, t < n → i < L t → wtO (X t i 0) = true → pl t (i + 1) = pl t i + 2 ∧ pl t i + 1 < L' t ∧ X' t (pl t i + 1) 0 = 12
/-- A thread at its new place. -/
def AtPl (pl : Nat → Nat → Nat) (A S : Sx) (t : Nat) : Prop := thOf S t = ⟨pl t (thOf A t).pc, (thOf A t).regs, (thOf A t).wait⟩
section
variable {n m lk rg : Nat} {L L' : Nat → Nat} {X X' : Nat → Nat → Nat → Int} {pl : Nat → Nat → Nat} {mode : Int}
/-- At their new places threads can do the same. -/
theorem at_able {A S : Sx} {t : Nat} (h : AtPl pl A S t) (hpc : (thOf A t).pc ≤ L t) (he : pl t (L t) = L' t) (hlt : (thOf A t).pc < L t → pl t (thOf A t).pc < L' t) (hmv : (thOf A t).pc < L t → MovO (pl t) (opT X A t 0) (opT X A t 1) (opT X A t 2) (opT X A t 3) (opT X' S t 0) (opT X' S t 1) (opT X' S t 2) (opT X' S t 3)) (ho : S.own = A.own) : endedT L' S t = endedT L A t ∧ ableT L' X' S t = ableT L X A t := by
  have e1 : endedT L' S t = endedT L A t := by
    unfold endedT
    rw [h]
    rcases Nat.lt_or_ge (thOf A t).pc (L t) with h1 | h1
    · have := hlt h1
      rw [decide_eq_false (by simp only; omega), decide_eq_false (by omega)]
    · have e2 : (thOf A t).pc = L t := by omega
      rw [e2, he]
      simp
  refine ⟨e1, ?_⟩
  unfold ableT
  rw [e1]
  cases e2 : endedT L A t with
  | true => rfl
  | false =>
    have h1 : (thOf A t).pc < L t := by
      unfold endedT at e2
      have := of_decide_eq_false e2
      omega
    have h2 := hmv h1
    rw [h2.o, h, ho]
    simp only [Bool.false_eq_true, ↓reduceIte]
    by_cases h17 : opT X A t 0 = 17
    · rw [h2.a, if_neg (show ¬ opT X A t 0 = 14 by omega)]
    · simp only [if_neg h17]
theorem at_eff {A S : Sx} {t : Nat} (h : AtPl pl A S t) (hmv : MovO (pl t) (opT X A t 0) (opT X A t 1) (opT X A t 2) (opT X A t 3) (opT X' S t 0) (opT X' S t 1) (opT X' S t 2) (opT X' S t 3)) (hnx : pl t ((thOf A t).pc + 1) = pl t (thOf A t).pc + 1) (hw : S.words = A.words) (ho : S.own = A.own) : effT X' S t = (effT X A t).map fun x => (pl t x.1, x.2) := by
  unfold effT
  have e1 : findsW S t = findsW A t := by funext a; unfold findsW; rw [h, hw]
  have e2 : freesW S t = freesW A t := by funext a; unfold freesW; rw [h, ho]
  rw [e1, e2, hw, h]
  simp only
  rw [← hnx]
  exact eff_mov hmv _ _ _ _ _
theorem at_store {A S : Sx} {t : Nat} (h : AtPl pl A S t) (hmv : MovO (pl t) (opT X A t 0) (opT X A t 1) (opT X A t 2) (opT X A t 3) (opT X' S t 0) (opT X' S t 1) (opT X' S t 2) (opT X' S t 3)) (hw : S.words = A.words) (ho : S.own = A.own) {x : Wt} : StoreOf X' S t x ↔ StoreOf X A t x := by
  unfold StoreOf getR
  rw [h, hw, ho, hmv.o, hmv.a, hmv.b]
  constructor
  all_goals
    rintro (⟨h1, h2⟩ | ⟨h1, h2⟩ | ⟨h1, h2⟩)
    · refine Or.inl ⟨h1, ?_⟩
      simpa [h1] using h2
    · refine Or.inr (Or.inl ⟨h1, ?_⟩)
      simpa [h1] using h2
    · refine Or.inr (Or.inr ⟨h1, ?_⟩)
      simpa [h1] using h2
/-- How a thread of the fenced program stands to that of the plain one. -/
def FTh (L : Nat → Nat) (X : Nat → Nat → Nat → Int) (pl : Nat → Nat → Nat) (A S : Sx) (t : Nat) : Prop :=
  AtPl pl A S t ∨
  (∃ x, (thOf A t).pc < L t ∧ StoreOf X A t x ∧ thOf S t = ⟨pl t (thOf A t).pc + 1, (thOf A t).regs, [x]⟩) ∨
  ∃ i, i < L t ∧ wtO (X t i 0) = true ∧ (thOf A t).pc = i + 1 ∧ thOf S t = ⟨pl t i + 1, (thOf A t).regs, []⟩
theorem FTh.same {A S A' S' : Sx} {t : Nat} (h : FTh L X pl A S t) (hA : thOf A' t = thOf A t) (hS : thOf S' t = thOf S t) (hm : A'.words.length = A.words.length) (ho : ∀ a, A.own.getD a 0 = (t : Int) → A'.own.getD a 0 = (t : Int)) : FTh L X pl A' S' t := by
  rcases h with h | ⟨x, h1, h2, h3⟩ | ⟨i, h1, h2, h3, h4⟩
  · refine Or.inl ?_
    unfold AtPl at *
    rw [hA, hS]
    exact h
  · exact Or.inr (Or.inl ⟨x, by rw [hA]; exact h1, h2.same hA hm ho, by rw [hA, hS]; exact h3⟩)
  · exact Or.inr (Or.inr ⟨i, h1, h2, by rw [hA]; exact h3, by rw [hA, hS]; exact h4⟩)
structure FSt (n : Nat) (L : Nat → Nat) (X : Nat → Nat → Nat → Int) (pl : Nat → Nat → Nat) (A S : Sx) : Prop where
  len : S.ths.length = n
  words : S.words = A.words
  own : S.own = A.own
  prints : S.prints = A.prints
  fell : S.fell = false
  th : ∀ t, t < n → FTh L X pl A S t
theorem ths_act (s : Sx) (t : Nat) (k : Ak) : (actX 0 s t k).ths = s.ths := by
  cases k <;> first
    | rfl
    | (show (storeW 0 s t _).ths = _; unfold storeW doneW; rw [if_neg (by omega)]; split <;> rfl)
theorem thOf_act (s : Sx) (t u : Nat) (k : Ak) : thOf (actX 0 s t k) u = thOf s u := by unfold thOf; rw [ths_act]
theorem words_act (s : Sx) (t : Nat) (k : Ak) : (actX 0 s t k).words.length = s.words.length := by
  cases k <;> first
    | rfl
    | (show (storeW 0 s t _).words.length = _; unfold storeW doneW; rw [if_neg (by omega)]; split <;> simp)
    | simp [actX]
/-- What another thread's locks are. -/
theorem own_act {s : Sx} {t u : Nat} (hu : u ≠ t) (k : Ak) (h17 : ∀ a, k = .take a → s.own.getD a.toNat 0 = -1) (h18 : ∀ a, k = .free a → s.own.getD a.toNat 0 = (t : Int)) (a : Nat) (h : s.own.getD a 0 = (u : Int)) : (actX 0 s t k).own.getD a 0 = (u : Int) := by
  have key : ∀ (b : Int) (v : Int), s.own.getD b.toNat 0 ≠ (u : Int) → (s.own.set b.toNat v).getD a 0 = (u : Int) := fun b v hb => by
    have hne : a ≠ b.toNat := fun e => hb (by rw [← e]; exact h)
    rw [List.getD_eq_getElem?_getD, List.getElem?_set_ne (fun e => hne e.symm), ← List.getD_eq_getElem?_getD]
    exact h
  cases k with
  | no => exact h
  | put b v => exact h
  | free b =>
    have := h18 b rfl
    exact key b _ (by omega)
  | take b =>
    have := h17 b rfl
    exact key b _ (by omega)
  | swap b v => exact h
  | say v => exact h
theorem eff_own {s : Sx} {t : Nat} {p : Nat} {r : List Int} {k : Ak} (ha : ableT L X s t = true) (he : effT X s t = some (p, r, k)) : (∀ a, k = .take a → s.own.getD a.toNat 0 = -1) ∧ ∀ a, k = .free a → s.own.getD a.toNat 0 = (t : Int) := by
  refine ⟨fun a e => ?_, fun a e => ?_⟩
  · subst e
    obtain ⟨h1, h2⟩ := eff_take he
    rw [← h2]
    exact able_17 ha h1
  · subst e
    obtain ⟨h1, h2⟩ := eff_free he
    unfold effT effX at he
    rw [h1, h2] at he
    simp only [Int.reduceEq, ↓reduceIte] at he
    split at he
    · rename_i h3
      unfold freesW at h3
      simp only [Bool.and_eq_true, decide_eq_true_eq] at h3
      exact h3.1
    · cases he
/-- A step of the fenced program: the plain one does the same, or stands still. -/
theorem FSt.step (hR : FullR n L X L' X' pl) (hmode : 0 < mode) {s0 A S S' : Sx} (hA : Rch (nxX L X 0) s0 A) (hok : SOk n L m lk rg 0 A) (hAf : A.fell = false) (h : FSt n L X pl A S) (hn : S' ∈ nxX L' X' mode S) : ∃ A', Rch (nxX L X 0) s0 A' ∧ FSt n L X pl A' S' := by
  have hwl : ∀ t, t < S.ths.length → (thOf S t).wait.length ≤ 3 := fun t ht => by
    rcases h.th t (by rw [← h.len]; exact ht) with h1 | ⟨x, _, _, h1⟩ | ⟨i, _, _, _, h1⟩
    · rw [h1, hok.bare rfl t (by rw [← h.len]; exact ht)]; simp
    · rw [h1]; simp
    · rw [h1]; simp
  have hAl := hok.ths
  rcases nx_cases h.fell hwl hn with ⟨t, p, rs, k, ht, ha, he, rfl⟩ | ⟨t, k, ht, hk, hmay, rfl⟩
  · have htn : t < n := by rw [← h.len]; exact ht
    have htA : t < A.ths.length := by rw [hAl]; exact htn
    rcases h.th t htn with h1 | ⟨x, _, _, h1⟩ | ⟨i, hi, hwi, hpc, h1⟩
    · have hAw := hok.bare rfl t htn
      have hae := at_able h1 (hok.pc t htn) (hR.e t htn) (hR.lt t _ htn) (X := X) (X' := X') (fun hl => by have := hR.mv t _ htn hl; unfold opT; rw [h1]; exact this) h.own
      rw [hae.2] at ha
      have hl : (thOf A t).pc < L t := able_lt ha
      have hmv : MovO (pl t) (opT X A t 0) (opT X A t 1) (opT X A t 2) (opT X A t 3) (opT X' S t 0) (opT X' S t 1) (opT X' S t 2) (opT X' S t 3) := by have := hR.mv t _ htn hl; unfold opT; rw [h1]; exact this
      have hSw : (thOf S t).wait = [] := by rw [h1]; exact hAw
      cases hwt : wtO (opT X A t 0) with
      | true =>
        have hwt' : wtO (opT X' S t 0) = true := by rw [hmv.o]; exact hwt
        rcases store_eff hwt' with e | ⟨x, hx, e⟩
        · rw [e] at he; cases he
        · rw [e] at he
          simp only [Option.some.injEq, Prod.mk.injEq] at he
          obtain ⟨rfl, rfl, rfl⟩ := he
          refine ⟨A, hA, ?_⟩
          rw [act_ak hx.zero]
          unfold storeW
          rw [if_pos hmode, th_set ht, set_set, hSw]
          refine ⟨by rw [← h.len]; simp [setTh], h.words, h.own, h.prints, h.fell, fun u hu => ?_⟩
          by_cases eu : u = t
          · subst eu
            refine Or.inr (Or.inl ⟨x, hl, (at_store h1 hmv h.words h.own).mp hx, ?_⟩)
            rw [thOf_set ht, if_pos rfl, h1]
            rfl
          · exact (h.th u hu).same rfl (by rw [thOf_set ht, if_neg eu]) rfl (fun _ e => e)
      | false =>
        have hnx := hR.nx t _ htn hl hwt
        have he2 := at_eff h1 hmv hnx h.words h.own
        rw [he] at he2
        cases he3 : effT X A t with
        | none => rw [he3] at he2; cases he2
        | some q =>
          obtain ⟨p2, r2, k2⟩ := q
          rw [he3] at he2
          simp only [Option.map_some, Option.some.injEq, Prod.mk.injEq] at he2
          obtain ⟨rfl, rfl, rfl⟩ := he2
          have hno := eff_no hwt he3
          have hown := eff_own ha he3
          refine ⟨_, rch_eff hA hAf htA ha he3, ?_⟩
          rw [hSw, hAw]
          have hth : ∀ u, thOf (actX mode (setTh S t ⟨pl t p2, rs, []⟩) t k) u = thOf (setTh S t ⟨pl t p2, rs, []⟩) u := fun u => by
            cases k with
            | put a v => exact absurd rfl (hno.1 a v)
            | free a => exact absurd rfl (hno.2 a)
            | no => rfl
            | take a => rfl
            | swap a v => rfl
            | say v => rfl
          have hfl : (actX mode (setTh S t ⟨pl t p2, rs, []⟩) t k).ths.length = n ∧ (actX mode (setTh S t ⟨pl t p2, rs, []⟩) t k).words = (actX 0 (setTh A t ⟨p2, rs, []⟩) t k).words ∧ (actX mode (setTh S t ⟨pl t p2, rs, []⟩) t k).own = (actX 0 (setTh A t ⟨p2, rs, []⟩) t k).own ∧ (actX mode (setTh S t ⟨pl t p2, rs, []⟩) t k).prints = (actX 0 (setTh A t ⟨p2, rs, []⟩) t k).prints ∧ (actX mode (setTh S t ⟨pl t p2, rs, []⟩) t k).fell = false := by
            have hln : (setTh S t ⟨pl t p2, rs, []⟩).ths.length = n := by rw [← h.len]; simp [setTh]
            cases k with
            | put a v => exact absurd rfl (hno.1 a v)
            | free a => exact absurd rfl (hno.2 a)
            | no => exact ⟨hln, h.words, h.own, h.prints, h.fell⟩
            | take a => exact ⟨hln, h.words, by show S.own.set _ _ = A.own.set _ _; rw [h.own], h.prints, h.fell⟩
            | swap a v => exact ⟨hln, by show S.words.set _ _ = A.words.set _ _; rw [h.words], h.own, h.prints, h.fell⟩
            | say v => exact ⟨hln, h.words, h.own, by show S.prints ++ _ = A.prints ++ _; rw [h.prints], h.fell⟩
          refine ⟨hfl.1, hfl.2.1, hfl.2.2.1, hfl.2.2.2.1, hfl.2.2.2.2, fun u hu => ?_⟩
          by_cases eu : u = t
          · subst eu
            refine Or.inl ?_
            unfold AtPl
            rw [hth, thOf_act, thOf_set ht, thOf_set htA, if_pos rfl, if_pos rfl]
          · refine (h.th u hu).same (by rw [thOf_act, thOf_set htA, if_neg eu]) (by rw [hth, thOf_set ht, if_neg eu]) (words_act _ _ _) (fun a e => ?_)
            exact own_act (s := setTh A t ⟨p2, rs, []⟩) eu k hown.1 hown.2 a e
    · exfalso
      rename_i hl hx
      have h12 := (hR.st t _ htn hl hx.wt).2.2
      have := able_13 ha (Or.inl (by unfold opT; rw [h1]; exact h12))
      rw [h1] at this
      cases this
    · have h12 := hR.st t i htn hi hwi
      have ho : opT X' S t 0 = 12 := by unfold opT; rw [h1]; exact h12.2.2
      unfold effT effX at he
      rw [ho] at he
      simp only [Int.reduceEq, ↓reduceIte, Option.some.injEq, Prod.mk.injEq] at he
      obtain ⟨rfl, rfl, rfl⟩ := he
      refine ⟨A, hA, ?_⟩
      refine ⟨by rw [← h.len]; simp [setTh, actX], h.words, h.own, h.prints, h.fell, fun u hu => ?_⟩
      by_cases eu : u = t
      · subst eu
        refine Or.inl ?_
        unfold AtPl
        show thOf (setTh S u _) u = _
        rw [thOf_set ht, if_pos rfl, h1, hpc, h12.1, hok.bare rfl u hu]
      · exact (h.th u hu).same rfl (by show thOf (setTh S t _) u = _; rw [thOf_set ht, if_neg eu]) rfl (fun _ e => e)
  · have htn : t < n := by rw [← h.len]; exact ht
    have htA : t < A.ths.length := by rw [hAl]; exact htn
    have hAw := hok.bare rfl t htn
    rcases h.th t htn with h1 | ⟨x, hl, hx, h1⟩ | ⟨i, hi, hwi, hpc, h1⟩
    · rw [h1, hAw] at hk; cases hk
    · have hk0 : k = 0 := by rw [h1] at hk; simpa using hk
      subst hk0
      have ha : ableT L X A t = true := by
        unfold ableT endedT
        rw [decide_eq_false (by omega), hAw]
        have := wtO_yes hx.wt
        rw [if_neg (by simp), if_pos this]
        rfl
      have he3 := hx.eff hAw
      have hown := eff_own ha he3
      have hr := rch_eff hA hAf htA ha he3
      rw [act_ak hx.zero, hAw] at hr
      refine ⟨_, hr, ?_⟩
      rw [h1]
      unfold storeW
      rw [if_neg (by omega)]
      show FSt n L X pl _ (setTh (doneW S x) t ⟨_, _, []⟩)
      have hd : ∀ (Z : Sx), (doneW Z x).ths = Z.ths ∧ (doneW Z x).prints = Z.prints ∧ (doneW Z x).fell = Z.fell := fun Z => by unfold doneW; split <;> exact ⟨rfl, rfl, rfl⟩
      have hth : ∀ (Z : Sx) u, thOf (doneW Z x) u = thOf Z u := fun Z u => by unfold thOf; rw [(hd Z).1]
      have ht2 : t < (doneW S x).ths.length := by rw [(hd S).1]; exact ht
      refine ⟨by rw [← h.len, ← (hd S).1]; simp [setTh], ?_, ?_, ?_, ?_, fun u hu => ?_⟩
      · show (doneW S x).words = _
        unfold doneW
        split
        · exact h.words
        · show S.words.set _ _ = A.words.set _ _
          rw [h.words]
      · show (doneW S x).own = _
        unfold doneW
        split
        · show S.own.set _ _ = A.own.set _ _
          rw [h.own]
        · exact h.own
      · show (doneW S x).prints = _
        rw [(hd S).2.1, (hd _).2.1]
        exact h.prints
      · show (doneW S x).fell = false
        rw [(hd S).2.2]
        exact h.fell
      · by_cases eu : u = t
        · subst eu
          refine Or.inr (Or.inr ⟨_, hl, hx.wt, ?_, ?_⟩)
          · rw [hth, thOf_set htA, if_pos rfl]
          · rw [hth, thOf_set ht2, thOf_set htA, if_pos rfl, if_pos rfl]
        · have e0 : storeW 0 (setTh A t ⟨(thOf A t).pc + 1, (thOf A t).regs, []⟩) t x = doneW (setTh A t ⟨(thOf A t).pc + 1, (thOf A t).regs, []⟩) x := by unfold storeW; rw [if_neg (by omega)]
          rw [← e0, ← act_ak hx.zero]
          refine (h.th u hu).same (by rw [thOf_act, thOf_set htA, if_neg eu]) (by rw [thOf_set ht2, if_neg eu, hth]) (words_act _ _ _) (fun a e => ?_)
          exact own_act (s := setTh A t ⟨(thOf A t).pc + 1, (thOf A t).regs, []⟩) eu _ hown.1 hown.2 a e
    · rw [h1] at hk; cases hk
end
end

section
open Go.RowKit

theorem ended_eq {L L' : Nat → Nat} {A S : Sx} (hl : S.ths.length = A.ths.length) (h : ∀ t, t < A.ths.length → endedT L' S t = endedT L A t ∧ (thOf S t).wait = (thOf A t).wait) : endedX L' S = endedX L A := by
  unfold endedX
  rw [hl]
  apply Bool.eq_iff_iff.mpr
  rw [List.all_eq_true, List.all_eq_true]
  constructor
  · intro h1 t ht
    have h2 := h1 t ht
    have := h t (by simpa using ht)
    rw [this.1, this.2] at h2
    exact h2
  · intro h1 t ht
    have h2 := h1 t ht
    have := h t (by simpa using ht)
    rw [this.1, this.2]
    exact h2
section
variable {n m lk rg : Nat} {L L' : Nat → Nat} {X X' : Nat → Nat → Nat → Int} {pl : Nat → Nat → Nat} {mode : Int}
theorem FSt.begin (hR : FullR n L X L' X' pl) {s0 : Sx} (hs : s0.ths.length = n) (hf : s0.fell = false) (hb : ∀ t, t < n → (thOf s0 t).wait = [] ∧ (thOf s0 t).pc = 0) : FSt n L X pl s0 s0 :=
  ⟨hs, rfl, rfl, rfl, hf, fun t ht => Or.inl (by
    have h1 := hb t ht
    have h2 := hR.z t ht
    unfold AtPl
    cases e : thOf s0 t with
    | mk pc rs w =>
      rw [e] at h1
      simp only at h1
      simp only [h1.2, h2])⟩
theorem full_fwd (hR : FullR n L X L' X' pl) (hmode : 0 < mode) (hc : COk n L X m lk rg) {s0 S : Sx} (hs : SOk n L m lk rg 0 s0) (hf : s0.fell = false) (hb : ∀ t, t < n → (thOf s0 t).wait = [] ∧ (thOf s0 t).pc = 0) (h : Rch (nxX L' X' mode) s0 S) : ∃ A, Rch (nxX L X 0) s0 A ∧ FSt n L X pl A S := by
  induction h with
  | base => exact ⟨s0, .base, FSt.begin hR hs.ths hf hb⟩
  | step _ ht ih =>
    obtain ⟨A, hA, hI⟩ := ih
    have hok := reach_ok hs hf hc (by omega) hA
    exact hI.step hR hmode hA hok.1 hok.2 ht
theorem mov_at (hR : FullR n L X L' X' pl) {A S : Sx} {t : Nat} (ht : t < n) (h1 : AtPl pl A S t) (hl : (thOf A t).pc < L t) : MovO (pl t) (opT X A t 0) (opT X A t 1) (opT X A t 2) (opT X A t 3) (opT X' S t 0) (opT X' S t 1) (opT X' S t 2) (opT X' S t 3) := by
  have := hR.mv t _ ht hl
  unfold opT
  rw [h1]
  exact this
/-- Each outcome of the fenced program with stores that wait is one of the plain one without. -/
theorem full_out (hR : FullR n L X L' X' pl) (hmode : 0 < mode) (hc : COk n L X m lk rg) {s0 S : Sx} (hs : SOk n L m lk rg 0 s0) (hf : s0.fell = false) (hb : ∀ t, t < n → (thOf s0 t).wait = [] ∧ (thOf s0 t).pc = 0) (h : Rch (nxX L' X' mode) s0 S) {o : Oc} (ho : o ∈ outsX L' X' mode S) : ∃ A, Rch (nxX L X 0) s0 A ∧ o ∈ outsX L X 0 A := by
  obtain ⟨A, hA, hI⟩ := full_fwd hR hmode hc hs hf hb h
  obtain ⟨hok, hAf⟩ := reach_ok hs hf hc (by omega) hA
  refine ⟨A, hA, ?_⟩
  have hwl : ∀ t, t < S.ths.length → (thOf S t).wait.length ≤ 3 := fun t ht => by
    rcases hI.th t (by rw [← hI.len]; exact ht) with h1 | ⟨x, _, _, h1⟩ | ⟨i, _, _, _, h1⟩
    · rw [h1, hok.bare rfl t (by rw [← hI.len]; exact ht)]; simp
    · rw [h1]; simp
    · rw [h1]; simp
  rcases outs_cases hI.fell hwl ho with ⟨hm, rfl⟩ | ⟨t, ht, ha, he, rfl⟩
  · rw [moves_nil] at hm
    have hat : ∀ t, t < n → AtPl pl A S t := fun t ht => by
      obtain ⟨h1, h2⟩ := hm t (by rw [hI.len]; exact ht)
      rcases hI.th t ht with h3 | ⟨x, _, _, h3⟩ | ⟨i, hi, hw, _, h3⟩
      · exact h3
      · rw [h3] at h2; cases h2
      · exfalso
        have h12 := hR.st t i ht hi hw
        have : ableT L' X' S t = true := by
          unfold ableT endedT opT
          rw [h3]
          simp only
          rw [decide_eq_false (by omega), h12.2.2]
          rfl
        rw [this] at h1
        cases h1
    have hae := fun t ht => at_able (hat t ht) (hok.pc t ht) (hR.e t ht) (hR.lt t _ ht) (X := X) (X' := X') (mov_at hR ht (hat t ht)) hI.own
    have hmA : movesX L X 0 A = [] := moves_nil.mpr fun t ht => by
      have htn : t < n := by rw [← hok.ths]; exact ht
      exact ⟨by rw [← (hae t htn).2]; exact (hm t (by rw [hI.len]; exact htn)).1, hok.bare rfl t htn⟩
    have := outs_end hmA
    rw [← ended_eq (L := L) (L' := L') (A := A) (S := S) (by rw [hI.len, hok.ths]) (fun t ht => by
      have htn : t < n := by rw [← hok.ths]; exact ht
      exact ⟨(hae t htn).1, by rw [hat t htn]⟩), ← hI.words, ← hI.prints] at this
    exact this
  · have htn : t < n := by rw [← hI.len]; exact ht
    rw [hI.prints]
    rcases hI.th t htn with h1 | ⟨x, hl, hx, h1⟩ | ⟨i, hi, hw, _, h1⟩
    · have hae := at_able h1 (hok.pc t htn) (hR.e t htn) (hR.lt t _ htn) (X := X) (X' := X') (mov_at hR htn h1) hI.own
      rw [hae.2] at ha
      have hl := able_lt ha
      have hmv := mov_at hR htn h1 hl
      have hAw := hok.bare rfl t htn
      refine outs_fall (by rw [hok.ths]; exact htn) ha ?_
      cases hwt : wtO (opT X A t 0) with
      | true =>
        rcases store_eff hwt with e | ⟨x, hx, e⟩
        · exact e
        · exfalso
          have := ((at_store h1 hmv hI.words hI.own).mpr hx).eff (by rw [h1]; exact hAw)
          rw [he] at this
          cases this
      | false =>
        have := at_eff h1 hmv (hR.nx t _ htn hl hwt) hI.words hI.own
        rw [he] at this
        cases e : effT X A t with
        | none => rfl
        | some q => rw [e] at this; cases this
    · exfalso
      have := able_13 ha (Or.inl (by unfold opT; rw [h1]; exact (hR.st t _ htn hl hx.wt).2.2))
      rw [h1] at this
      cases this
    · exfalso
      have h12 : opT X' S t 0 = 12 := by unfold opT; rw [h1]; exact (hR.st t i htn hi hw).2.2
      unfold effT effX at he
      rw [h12] at he
      simp at he
/-- All threads at their new places. -/
def mapS (pl : Nat → Nat → Nat) (s : Sx) : Sx := { s with ths := s.ths.mapIdx fun t x => ⟨pl t x.pc, x.regs, x.wait⟩ }
theorem map_len (s : Sx) : (mapS pl s).ths.length = s.ths.length := by simp [mapS]
theorem map_at {s : Sx} {t : Nat} (ht : t < s.ths.length) : AtPl pl s (mapS pl s) t := by
  unfold AtPl thOf mapS
  simp [List.getD, ht]
theorem map_set (s : Sx) (t p : Nat) (r : List Int) (w : List Wt) : mapS pl (setTh s t ⟨p, r, w⟩) = setTh (mapS pl s) t ⟨pl t p, r, w⟩ := by
  unfold mapS setTh
  simp only
  congr 1
  apply List.ext_getElem
  · simp
  · intro i h1 h2
    by_cases e : t = i
    · subst e; simp
    · simp [e]
theorem map_begin (hz : ∀ t, t < n → pl t 0 = 0) {s0 : Sx} (hs : s0.ths.length = n) (hb : ∀ t, t < n → (thOf s0 t).pc = 0) : mapS pl s0 = s0 := by
  have : (mapS pl s0).ths = s0.ths := by
    apply List.ext_getElem
    · simp [mapS]
    · intro i h1 h2
      have hi : i < n := by rw [← hs]; exact h2
      have h3 := hb i hi
      have e : thOf s0 i = s0.ths[i] := by simp [thOf, List.getD, h2]
      rw [e] at h3
      simp only [mapS, List.getElem_mapIdx, h3, hz i hi]
      cases e2 : s0.ths[i] with
      | mk a b c =>
        rw [e2] at h3
        simp only at h3
        rw [h3]
  cases s0
  unfold mapS at this ⊢
  simp only at this ⊢
  rw [this]
theorem map_act (s : Sx) (t : Nat) (k : Ak) (h1 : ∀ a v, k ≠ .put a v) (h2 : ∀ a, k ≠ .free a) : mapS pl (actX mode s t k) = actX mode (mapS pl s) t k := by
  cases k with
  | put a v => exact absurd rfl (h1 a v)
  | free a => exact absurd rfl (h2 a)
  | no => rfl
  | take a => rfl
  | swap a v => rfl
  | say v => rfl
theorem map_done (s : Sx) (x : Wt) : mapS pl (doneW s x) = doneW (mapS pl s) x := by unfold doneW; split <;> rfl
theorem full_bwd (hR : FullR n L X L' X' pl) (hmode : 0 < mode) (hc : COk n L X m lk rg) {s0 A : Sx} (hs : SOk n L m lk rg 0 s0) (hf : s0.fell = false) (hb : ∀ t, t < n → (thOf s0 t).wait = [] ∧ (thOf s0 t).pc = 0) (h : Rch (nxX L X 0) s0 A) : Rch (nxX L' X' mode) s0 (mapS pl A) := by
  induction h with
  | base => rw [map_begin hR.z hs.ths (fun t ht => (hb t ht).2)]; exact .base
  | @step A A' hA hnx ih =>
    obtain ⟨hok, hAf⟩ := reach_ok hs hf hc (by omega) hA
    rcases nx_cases hAf (fun t ht => hok.wlen t (by rw [← hok.ths]; exact ht)) hnx with ⟨t, p, rs, k, ht, ha, he, rfl⟩ | ⟨t, k, ht, hk, _, _⟩
    · have htn : t < n := by rw [← hok.ths]; exact ht
      have hAw := hok.bare rfl t htn
      have htS : t < (mapS pl A).ths.length := by rw [map_len]; exact ht
      have h1 := map_at (pl := pl) ht
      have hae := at_able h1 (hok.pc t htn) (hR.e t htn) (hR.lt t _ htn) (X := X) (X' := X') (mov_at hR htn h1) rfl
      have hl := able_lt ha
      have hmv := mov_at hR htn h1 hl
      have haS := hae.2.trans ha
      have hSf : (mapS pl A).fell = false := hAf
      have hSw : (thOf (mapS pl A) t).wait = [] := by rw [h1]; exact hAw
      rw [hAw]
      cases hwt : wtO (opT X A t 0) with
      | false =>
        have he2 := at_eff h1 hmv (hR.nx t _ htn hl hwt) rfl rfl
        rw [he] at he2
        have hno := eff_no hwt he
        have := rch_eff ih hSf htS haS he2
        rw [hSw] at this
        have e3 : actX 0 (setTh A t ⟨p, rs, []⟩) t k = actX mode (setTh A t ⟨p, rs, []⟩) t k := by
          cases k with
          | put a v => exact absurd rfl (hno.1 a v)
          | free a => exact absurd rfl (hno.2 a)
          | no => rfl
          | take a => rfl
          | swap a v => rfl
          | say v => rfl
        rw [e3, map_act _ _ _ hno.1 hno.2, map_set]
        exact this
      | true =>
        rcases store_eff hwt with e | ⟨x, hx, e⟩
        · rw [e] at he; cases he
        · rw [e] at he
          simp only [Option.some.injEq, Prod.mk.injEq] at he
          obtain ⟨rfl, rfl, rfl⟩ := he
          have hxS := (at_store h1 hmv rfl rfl).mpr hx
          have r1 := rch_eff ih hSf htS haS (hxS.eff hSw)
          have hst := hR.st t _ htn hl hwt
          rw [act_ak hx.zero] at r1 ⊢
          rw [hSw] at r1
          unfold storeW at r1 ⊢
          rw [if_pos hmode, th_set htS, set_set] at r1
          rw [if_neg (by omega), map_done, map_set]
          simp only [List.nil_append] at r1
          obtain ⟨S, hS⟩ : ∃ S, mapS pl A = S := ⟨_, rfl⟩
          rw [hS] at r1 h1 hSf htS ⊢
          obtain ⟨q, hq⟩ : ∃ q, (thOf S t).pc + 1 = q := ⟨_, rfl⟩
          have hq1 : q = pl t (thOf A t).pc + 1 := by rw [← hq, h1]
          rw [hq] at r1
          have hlen : t < (setTh S t ⟨q, (thOf S t).regs, [x]⟩).ths.length := by simpa [setTh] using htS
          have r2 := rch_fin r1 hlen (by rw [th_set htS]; simp) hSf
          have e2 := doX_wait (X := X') (mode := mode) (s := setTh S t ⟨q, (thOf S t).regs, [x]⟩) (t := t) (k := 0) (by omega)
          rw [e2, th_set htS] at r2
          have e3 : doneW (setTh S t ⟨q, (thOf S t).regs, [x]⟩) x = setTh (doneW S x) t ⟨q, (thOf S t).regs, [x]⟩ := by unfold doneW setTh; split <;> rfl
          have e4 : setTh (doneW (setTh S t ⟨q, (thOf S t).regs, [x]⟩) x) t ⟨q, (thOf S t).regs, []⟩ = setTh (doneW S x) t ⟨q, (thOf S t).regs, []⟩ := by rw [e3, set_set]
          have r3 : Rch (nxX L' X' mode) s0 (setTh (doneW S x) t ⟨q, (thOf S t).regs, []⟩) := by rw [← e4]; exact r2
          have htD : t < (doneW S x).ths.length := by unfold doneW; split <;> exact htS
          have htD2 : t < (setTh (doneW S x) t ⟨q, (thOf S t).regs, []⟩).ths.length := by simpa [setTh] using htD
          have ho : opT X' (setTh (doneW S x) t ⟨q, (thOf S t).regs, []⟩) t 0 = 12 := by unfold opT; rw [th_set htD]; show X' t q 0 = 12; rw [hq1]; exact hst.2.2
          have hab : ableT L' X' (setTh (doneW S x) t ⟨q, (thOf S t).regs, []⟩) t = true := by
            unfold ableT endedT
            rw [ho, th_set htD]
            simp only
            rw [decide_eq_false (by omega)]
            rfl
          have heff : effT X' (setTh (doneW S x) t ⟨q, (thOf S t).regs, []⟩) t = some (q + 1, (thOf S t).regs, .no) := by
            unfold effT effX
            rw [ho, th_set htD]
            simp
          have r4 := rch_eff r3 (by unfold doneW setTh; split <;> exact hSf) htD2 hab heff
          rw [th_set htD, set_set] at r4
          have e5 : setTh (doneW S x) t ⟨q + 1, (thOf S t).regs, []⟩ = doneW (setTh S t ⟨pl t ((thOf A t).pc + 1), (thOf A t).regs, []⟩) x := by
            have h3 : (thOf S t).regs = (thOf A t).regs := by rw [h1]
            rw [hst.1, hq1, h3]
            unfold doneW setTh
            split <;> rfl
          rw [← e5]
          exact r4
    · rw [hok.bare rfl t (by rw [← hok.ths]; exact ht)] at hk
      cases hk
/-- Each outcome of the plain program without stores that wait is one of the fenced one with them. -/
theorem full_back (hR : FullR n L X L' X' pl) (hmode : 0 < mode) (hc : COk n L X m lk rg) {s0 A : Sx} (hs : SOk n L m lk rg 0 s0) (hf : s0.fell = false) (hb : ∀ t, t < n → (thOf s0 t).wait = [] ∧ (thOf s0 t).pc = 0) (h : Rch (nxX L X 0) s0 A) {o : Oc} (ho : o ∈ outsX L X 0 A) : ∃ S, Rch (nxX L' X' mode) s0 S ∧ o ∈ outsX L' X' mode S := by
  obtain ⟨hok, hAf⟩ := reach_ok hs hf hc (by omega) h
  refine ⟨_, full_bwd hR hmode hc hs hf hb h, ?_⟩
  have h1 := fun t (ht : t < n) => map_at (pl := pl) (s := A) (t := t) (by rw [hok.ths]; exact ht)
  have hae := fun t ht => at_able (h1 t ht) (hok.pc t ht) (hR.e t ht) (hR.lt t _ ht) (X := X) (X' := X') (mov_at hR ht (h1 t ht)) rfl
  rcases outs_cases hAf (fun t ht => hok.wlen t (by rw [← hok.ths]; exact ht)) ho with ⟨hm, rfl⟩ | ⟨t, ht, ha, he, rfl⟩
  · rw [moves_nil] at hm
    have hmS : movesX L' X' mode (mapS pl A) = [] := moves_nil.mpr fun t ht => by
      have htn : t < n := by rw [← hok.ths, ← map_len (pl := pl)]; exact ht
      exact ⟨by rw [(hae t htn).2]; exact (hm t (by rw [hok.ths]; exact htn)).1, by rw [h1 t htn]; exact hok.bare rfl t htn⟩
    have := outs_end hmS
    rw [ended_eq (L := L) (L' := L') (A := A) (map_len A) (fun t ht => by
      have htn : t < n := by rw [← hok.ths]; exact ht
      exact ⟨(hae t htn).1, by rw [h1 t htn]⟩)] at this
    exact this
  · have htn : t < n := by rw [← hok.ths]; exact ht
    have hl := able_lt ha
    have hmv := mov_at hR htn (h1 t htn) hl
    have hAw := hok.bare rfl t htn
    refine outs_fall (s := mapS pl A) (by rw [map_len]; exact ht) ((hae t htn).2.trans ha) ?_
    cases hwt : wtO (opT X A t 0) with
    | true =>
      rcases store_eff (X := X') (s := mapS pl A) (t := t) (by rw [hmv.o]; exact hwt) with e | ⟨x, hx, e⟩
      · exact e
      · exfalso
        have := ((at_store (h1 t htn) hmv rfl rfl).mp hx).eff hAw
        rw [he] at this
        cases this
    | false =>
      have := at_eff (h1 t htn) hmv (hR.nx t _ htn hl hwt) rfl rfl
      rw [this, he]
      rfl
end
end

end Go.Proofs.YtefnmbnakphhfadGreatDoor
