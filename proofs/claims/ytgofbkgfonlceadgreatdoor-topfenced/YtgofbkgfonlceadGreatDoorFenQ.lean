/-
  A program with a fence behind each order that lets something wait: each of its steps is one of the plain program, or none. Plain functions.
  WITH A FENCE BEHIND EACH STORE nothing that waits is seen: the outcomes are those of the plain program without stores that wait. Plain functions.
  Orders anew, as plain functions: what each becomes, where it lies, that it may be; where something may wait.
-/
import Derived.Test.YtgofbkgfonlceadGreatDoorFenP
import Derived.Test.YtgofbkgfonlceadGreatDoorOrder
namespace Go.Proofs.YtgofbkgfonlceadGreatDoor
section
open Go.RowKit

/-- One program is the other with a fence behind each order that lets something wait. pl: the new place of each order, and of the one behind the last. -/
structure FullR (n : Nat) (L : Nat → Nat) (X : Nat → Nat → Nat → Int) (L' : Nat → Nat) (X' : Nat → Nat → Nat → Int) (pl : Nat → Nat → Nat) : Prop where
  z : ∀ t, t < n → pl t 0 = 0
  e : ∀ t, t < n → pl t (L t) = L' t
  lt : ∀ t i, t < n → i < L t → pl t i < L' t
  mv : ∀ t i, t < n → i < L t → MovO (pl t) (X t i 0) (X t i 1) (X t i 2) (X t i 3) (X' t (pl t i) 0) (X' t (pl t i) 1) (X' t (pl t i) 2) (X' t (pl t i) 3)
  nx : ∀ t i, t < n → i < L t → wtO (X t i 0) = false → pl t (i + 1) = pl t i + 1
  st : ∀ t i, t < n → i < L t → wtO (X t i 0) = true → pl t (i + 1) = pl t i + 2 ∧ pl t i + 1 < L' t ∧ X' t (pl t i + 1) 0 = 12
/-- A thread at its new place. -/
def AtPl (pl : Nat → Nat → Nat) (A S : Sx) (t : Nat) : Prop := thOf S t = ⟨pl t (thOf A t).pc, (thOf A t).regs, (thOf A t).wait⟩
section
variable {n m lk rg : Nat} {L L' : Nat → Nat} {X X' : Nat → Nat → Nat → Int} {pl : Nat → Nat → Nat} {mode : Int}
/-- At their new places threads can do the same. -/
theorem at_able {A S : Sx} {t : Nat} (h : AtPl pl A S t) (hpc : (thOf A t).pc ≤ L t) (he : pl t (L t) = L' t) (hlt : (thOf A t).pc < L t → pl t (thOf A t).pc < L' t) (hmv : (thOf A t).pc < L t → MovO (pl t) (opT X A t 0) (opT X A t 1) (opT X A t 2) (opT X A t 3) (opT X' S t 0) (opT X' S t 1) (opT X' S t 2) (opT X' S t 3)) (ho : S.own = A.own) : endedT L' S t = endedT L A t ∧ ableT L' X' S t = ableT L X A t := by
  have e1 : endedT L' S t = endedT L A t := by
    unfold endedT
    rw [h]
    rcases Nat.lt_or_ge (thOf A t).pc (L t) with h1 | h1
    · have := hlt h1
      rw [decide_eq_false (by simp only; omega), decide_eq_false (by omega)]
    · have e2 : (thOf A t).pc = L t := by omega
      rw [e2, he]
      simp
  refine ⟨e1, ?_⟩
  unfold ableT
  rw [e1]
  cases e2 : endedT L A t with
  | true => rfl
  | false =>
    have h1 : (thOf A t).pc < L t := by
      unfold endedT at e2
      have := of_decide_eq_false e2
      omega
    have h2 := hmv h1
    rw [h2.o, h, ho]
    simp only [Bool.false_eq_true, ↓reduceIte]
    by_cases h17 : opT X A t 0 = 17
    · rw [h2.a, if_neg (show ¬ opT X A t 0 = 14 by omega)]
    · simp only [if_neg h17]
theorem at_eff {A S : Sx} {t : Nat} (h : AtPl pl A S t) (hmv : MovO (pl t) (opT X A t 0) (opT X A t 1) (opT X A t 2) (opT X A t 3) (opT X' S t 0) (opT X' S t 1) (opT X' S t 2) (opT X' S t 3)) (hnx : pl t ((thOf A t).pc + 1) = pl t (thOf A t).pc + 1) (hw : S.words = A.words) (ho : S.own = A.own) : effT X' S t = (effT X A t).map fun x => (pl t x.1, x.2) := by
  unfold effT
  have e1 : findsW S t = findsW A t := by funext a; unfold findsW; rw [h, hw]
  have e2 : freesW S t = freesW A t := by funext a; unfold freesW; rw [h, ho]
  rw [e1, e2, hw, h]
  simp only
  rw [← hnx]
  exact eff_mov hmv _ _ _ _ _
theorem at_store {A S : Sx} {t : Nat} (h : AtPl pl A S t) (hmv : MovO (pl t) (opT X A t 0) (opT X A t 1) (opT X A t 2) (opT X A t 3) (opT X' S t 0) (opT X' S t 1) (opT X' S t 2) (opT X' S t 3)) (hw : S.words = A.words) (ho : S.own = A.own) {x : Wt} : StoreOf X' S t x ↔ StoreOf X A t x := by
  unfold StoreOf getR
  rw [h, hw, ho, hmv.o, hmv.a, hmv.b]
  constructor
  all_goals
    rintro (⟨h1, h2⟩ | ⟨h1, h2⟩ | ⟨h1, h2⟩)
    · refine Or.inl ⟨h1, ?_⟩
      simpa [h1] using h2
    · refine Or.inr (Or.inl ⟨h1, ?_⟩)
      simpa [h1] using h2
    · refine Or.inr (Or.inr ⟨h1, ?_⟩)
      simpa [h1] using h2
/-- How a thread of the fenced program stands to that of the plain one. -/
def FTh (L : Nat → Nat) (X : Nat → Nat → Nat → Int) (pl : Nat → Nat → Nat) (A S : Sx) (t : Nat) : Prop :=
  AtPl pl A S t ∨
  (∃ x, (thOf A t).pc < L t ∧ StoreOf X A t x ∧ thOf S t = ⟨pl t (thOf A t).pc + 1, (thOf A t).regs, [x]⟩) ∨
  ∃ i, i < L t ∧ wtO (X t i 0) = true ∧ (thOf A t).pc = i + 1 ∧ thOf S t = ⟨pl t i + 1, (thOf A t).regs, []⟩
theorem FTh.same {A S A' S' : Sx} {t : Nat} (h : FTh L X pl A S t) (hA : thOf A' t = thOf A t) (hS : thOf S' t = thOf S t) (hm : A'.words.length = A.words.length) (ho : ∀ a, A.own.getD a 0 = (t : Int) → A'.own.getD a 0 = (t : Int)) : FTh L X pl A' S' t := by
  rcases h with h | ⟨x, h1, h2, h3⟩ | ⟨i, h1, h2, h3, h4⟩
  · refine Or.inl ?_
    unfold AtPl at *
    rw [hA, hS]
    exact h
  · exact Or.inr (Or.inl ⟨x, by rw [hA]; exact h1, h2.same hA hm ho, by rw [hA, hS]; exact h3⟩)
  · exact Or.inr (Or.inr ⟨i, h1, h2, by rw [hA]; exact h3, by rw [hA, hS]; exact h4⟩)
structure FSt (n : Nat) (L : Nat → Nat) (X : Nat → Nat → Nat → Int) (pl : Nat → Nat → Nat) (A S : Sx) : Prop where
  len : S.ths.length = n
  words : S.words = A.words
  own : S.own = A.own
  prints : S.prints = A.prints
  fell : S.fell = false
  th : ∀ t, t < n → FTh L X pl A S t
theorem ths_act (s : Sx) (t : Nat) (k : Ak) : (actX 0 s t k).ths = s.ths := by
  cases k <;> first
    | rfl
    | (show (storeW 0 s t _).ths = _; unfold storeW doneW; rw [if_neg (by omega)]; split <;> rfl)
theorem thOf_act (s : Sx) (t u : Nat) (k : Ak) : thOf (actX 0 s t k) u = thOf s u := by unfold thOf; rw [ths_act]
theorem words_act (s : Sx) (t : Nat) (k : Ak) : (actX 0 s t k).words.length = s.words.length := by
  cases k <;> first
    | rfl
    | (show (storeW 0 s t _).words.length = _; unfold storeW doneW; rw [if_neg (by omega)]; split <;> simp)
    | simp [actX]
/-- What another thread's locks are. -/
theorem own_act {s : Sx} {t u : Nat} (hu : u ≠ t) (k : Ak) (h17 : ∀ a, k = .take a → s.own.getD a.toNat 0 = -1) (h18 : ∀ a, k = .free a → s.own.getD a.toNat 0 = (t : Int)) (a : Nat) (h : s.own.getD a 0 = (u : Int)) : (actX 0 s t k).own.getD a 0 = (u : Int) := by
  have key : ∀ (b : Int) (v : Int), s.own.getD b.toNat 0 ≠ (u : Int) → (s.own.set b.toNat v).getD a 0 = (u : Int) := fun b v hb => by
    have hne : a ≠ b.toNat := fun e => hb (by rw [← e]; exact h)
    rw [List.getD_eq_getElem?_getD, List.getElem?_set_ne (fun e => hne e.symm), ← List.getD_eq_getElem?_getD]
    exact h
  cases k with
  | no => exact h
  | put b v => exact h
  | free b =>
    have := h18 b rfl
    exact key b _ (by omega)
  | take b =>
    have := h17 b rfl
    exact key b _ (by omega)
  | swap b v => exact h
  | say v => exact h
theorem eff_own {s : Sx} {t : Nat} {p : Nat} {r : List Int} {k : Ak} (ha : ableT L X s t = true) (he : effT X s t = some (p, r, k)) : (∀ a, k = .take a → s.own.getD a.toNat 0 = -1) ∧ ∀ a, k = .free a → s.own.getD a.toNat 0 = (t : Int) := by
  refine ⟨fun a e => ?_, fun a e => ?_⟩
  · subst e
    obtain ⟨h1, h2⟩ := eff_take he
    rw [← h2]
    exact able_17 ha h1
  · subst e
    obtain ⟨h1, h2⟩ := eff_free he
    unfold effT effX at he
    rw [h1, h2] at he
    simp only [Int.reduceEq, ↓reduceIte] at he
    split at he
    · rename_i h3
      unfold freesW at h3
      simp only [Bool.and_eq_true, decide_eq_true_eq] at h3
      exact h3.1
    · cases he
/-- A step of the fenced program: the plain one does the same, or stands still. -/
theorem FSt.step (hR : FullR n L X L' X' pl) (hmode : 0 < mode) {s0 A S S' : Sx} (hA : Rch (nxX L X 0) s0 A) (hok : SOk n L m lk rg 0 A) (hAf : A.fell = false) (h : FSt n L X pl A S) (hn : S' ∈ nxX L' X' mode S) : ∃ A', Rch (nxX L X 0) s0 A' ∧ FSt n L X pl A' S' := by
  have hwl : ∀ t, t < S.ths.length → (thOf S t).wait.length ≤ 3 := fun t ht => by
    rcases h.th t (by rw [← h.len]; exact ht) with h1 | ⟨x, _, _, h1⟩ | ⟨i, _, _, _, h1⟩
    · rw [h1, hok.bare rfl t (by rw [← h.len]; exact ht)]; simp
    · rw [h1]; simp
    · rw [h1]; simp
  have hAl := hok.ths
  rcases nx_cases h.fell hwl hn with ⟨t, p, rs, k, ht, ha, he, rfl⟩ | ⟨t, k, ht, hk, hmay, rfl⟩
  · have htn : t < n := by rw [← h.len]; exact ht
    have htA : t < A.ths.length := by rw [hAl]; exact htn
    rcases h.th t htn with h1 | ⟨x, _, _, h1⟩ | ⟨i, hi, hwi, hpc, h1⟩
    · have hAw := hok.bare rfl t htn
      have hae := at_able h1 (hok.pc t htn) (hR.e t htn) (hR.lt t _ htn) (X := X) (X' := X') (fun hl => by have := hR.mv t _ htn hl; unfold opT; rw [h1]; exact this) h.own
      rw [hae.2] at ha
      have hl : (thOf A t).pc < L t := able_lt ha
      have hmv : MovO (pl t) (opT X A t 0) (opT X A t 1) (opT X A t 2) (opT X A t 3) (opT X' S t 0) (opT X' S t 1) (opT X' S t 2) (opT X' S t 3) := by have := hR.mv t _ htn hl; unfold opT; rw [h1]; exact this
      have hSw : (thOf S t).wait = [] := by rw [h1]; exact hAw
      cases hwt : wtO (opT X A t 0) with
      | true =>
        have hwt' : wtO (opT X' S t 0) = true := by rw [hmv.o]; exact hwt
        rcases store_eff hwt' with e | ⟨x, hx, e⟩
        · rw [e] at he; cases he
        · rw [e] at he
          simp only [Option.some.injEq, Prod.mk.injEq] at he
          obtain ⟨rfl, rfl, rfl⟩ := he
          refine ⟨A, hA, ?_⟩
          rw [act_ak hx.zero]
          unfold storeW
          rw [if_pos hmode, th_set ht, set_set, hSw]
          refine ⟨by rw [← h.len]; simp [setTh], h.words, h.own, h.prints, h.fell, fun u hu => ?_⟩
          by_cases eu : u = t
          · subst eu
            refine Or.inr (Or.inl ⟨x, hl, (at_store h1 hmv h.words h.own).mp hx, ?_⟩)
            rw [thOf_set ht, if_pos rfl, h1]
            rfl
          · exact (h.th u hu).same rfl (by rw [thOf_set ht, if_neg eu]) rfl (fun _ e => e)
      | false =>
        have hnx := hR.nx t _ htn hl hwt
        have he2 := at_eff h1 hmv hnx h.words h.own
        rw [he] at he2
        cases he3 : effT X A t with
        | none => rw [he3] at he2; cases he2
        | some q =>
          obtain ⟨p2, r2, k2⟩ := q
          rw [he3] at he2
          simp only [Option.map_some, Option.some.injEq, Prod.mk.injEq] at he2
          obtain ⟨rfl, rfl, rfl⟩ := he2
          have hno := eff_no hwt he3
          have hown := eff_own ha he3
          refine ⟨_, rch_eff hA hAf htA ha he3, ?_⟩
          rw [hSw, hAw]
          have hth : ∀ u, thOf (actX mode (setTh S t ⟨pl t p2, rs, []⟩) t k) u = thOf (setTh S t ⟨pl t p2, rs, []⟩) u := fun u => by
            cases k with
            | put a v => exact absurd rfl (hno.1 a v)
            | free a => exact absurd rfl (hno.2 a)
            | no => rfl
            | take a => rfl
            | swap a v => rfl
            | say v => rfl
          have hfl : (actX mode (setTh S t ⟨pl t p2, rs, []⟩) t k).ths.length = n ∧ (actX mode (setTh S t ⟨pl t p2, rs, []⟩) t k).words = (actX 0 (setTh A t ⟨p2, rs, []⟩) t k).words ∧ (actX mode (setTh S t ⟨pl t p2, rs, []⟩) t k).own = (actX 0 (setTh A t ⟨p2, rs, []⟩) t k).own ∧ (actX mode (setTh S t ⟨pl t p2, rs, []⟩) t k).prints = (actX 0 (setTh A t ⟨p2, rs, []⟩) t k).prints ∧ (actX mode (setTh S t ⟨pl t p2, rs, []⟩) t k).fell = false := by
            have hln : (setTh S t ⟨pl t p2, rs, []⟩).ths.length = n := by rw [← h.len]; simp [setTh]
            cases k with
            | put a v => exact absurd rfl (hno.1 a v)
            | free a => exact absurd rfl (hno.2 a)
            | no => exact ⟨hln, h.words, h.own, h.prints, h.fell⟩
            | take a => exact ⟨hln, h.words, by show S.own.set _ _ = A.own.set _ _; rw [h.own], h.prints, h.fell⟩
            | swap a v => exact ⟨hln, by show S.words.set _ _ = A.words.set _ _; rw [h.words], h.own, h.prints, h.fell⟩
            | say v => exact ⟨hln, h.words, h.own, by show S.prints ++ _ = A.prints ++ _; rw [h.prints], h.fell⟩
          refine ⟨hfl.1, hfl.2.1, hfl.2.2.1, hfl.2.2.2.1, hfl.2.2.2.2, fun u hu => ?_⟩
          by_cases eu : u = t
          · subst eu
            refine Or.inl ?_
            unfold AtPl
            rw [hth, thOf_act, thOf_set ht, thOf_set htA, if_pos rfl, if_pos rfl]
          · refine (h.th u hu).same (by rw [thOf_act, thOf_set htA, if_neg eu]) (by rw [hth, thOf_set ht, if_neg eu]) (words_act _ _ _) (fun a e => ?_)
            exact own_act (s := setTh A t ⟨p2, rs, []⟩) eu k hown.1 hown.2 a e
    · exfalso
      rename_i hl hx
      have h12 := (hR.st t _ htn hl hx.wt).2.2
      have := able_13 ha (Or.inl (by unfold opT; rw [h1]; exact h12))
      rw [h1] at this
      cases this
    · have h12 := hR.st t i htn hi hwi
      have ho : opT X' S t 0 = 12 := by unfold opT; rw [h1]; exact h12.2.2
      unfold effT effX at he
      rw [ho] at he
      simp only [Int.reduceEq, ↓reduceIte, Option.some.injEq, Prod.mk.injEq] at he
      obtain ⟨rfl, rfl, rfl⟩ := he
      refine ⟨A, hA, ?_⟩
      refine ⟨by rw [← h.len]; simp [setTh, actX], h.words, h.own, h.prints, h.fell, fun u hu => ?_⟩
      by_cases eu : u = t
      · subst eu
        refine Or.inl ?_
        unfold AtPl
        show thOf (setTh S u _) u = _
        rw [thOf_set ht, if_pos rfl, h1, hpc, h12.1, hok.bare rfl u hu]
      · exact (h.th u hu).same rfl (by show thOf (setTh S t _) u = _; rw [thOf_set ht, if_neg eu]) rfl (fun _ e => e)
  · have htn : t < n := by rw [← h.len]; exact ht
    have htA : t < A.ths.length := by rw [hAl]; exact htn
    have hAw := hok.bare rfl t htn
    rcases h.th t htn with h1 | ⟨x, hl, hx, h1⟩ | ⟨i, hi, hwi, hpc, h1⟩
    · rw [h1, hAw] at hk; cases hk
    · have hk0 : k = 0 := by rw [h1] at hk; simpa using hk
      subst hk0
      have ha : ableT L X A t = true := by
        unfold ableT endedT
        rw [decide_eq_false (by omega), hAw]
        have := wtO_yes hx.wt
        rw [if_neg (by simp), if_pos this]
        rfl
      have he3 := hx.eff hAw
      have hown := eff_own ha he3
      have hr := rch_eff hA hAf htA ha he3
      rw [act_ak hx.zero, hAw] at hr
      refine ⟨_, hr, ?_⟩
      rw [h1]
      unfold storeW
      rw [if_neg (by omega)]
      show FSt n L X pl _ (setTh (doneW S x) t ⟨_, _, []⟩)
      have hd : ∀ (Z : Sx), (doneW Z x).ths = Z.ths ∧ (doneW Z x).prints = Z.prints ∧ (doneW Z x).fell = Z.fell := fun Z => by unfold doneW; split <;> exact ⟨rfl, rfl, rfl⟩
      have hth : ∀ (Z : Sx) u, thOf (doneW Z x) u = thOf Z u := fun Z u => by unfold thOf; rw [(hd Z).1]
      have ht2 : t < (doneW S x).ths.length := by rw [(hd S).1]; exact ht
      refine ⟨by rw [← h.len, ← (hd S).1]; simp [setTh], ?_, ?_, ?_, ?_, fun u hu => ?_⟩
      · show (doneW S x).words = _
        unfold doneW
        split
        · exact h.words
        · show S.words.set _ _ = A.words.set _ _
          rw [h.words]
      · show (doneW S x).own = _
        unfold doneW
        split
        · show S.own.set _ _ = A.own.set _ _
          rw [h.own]
        · exact h.own
      · show (doneW S x).prints = _
        rw [(hd S).2.1, (hd _).2.1]
        exact h.prints
      · show (doneW S x).fell = false
        rw [(hd S).2.2]
        exact h.fell
      · by_cases eu : u = t
        · subst eu
          refine Or.inr (Or.inr ⟨_, hl, hx.wt, ?_, ?_⟩)
          · rw [hth, thOf_set htA, if_pos rfl]
          · rw [hth, thOf_set ht2, thOf_set htA, if_pos rfl, if_pos rfl]
        · have e0 : storeW 0 (setTh A t ⟨(thOf A t).pc + 1, (thOf A t).regs, []⟩) t x = doneW (setTh A t ⟨(thOf A t).pc + 1, (thOf A t).regs, []⟩) x := by unfold storeW; rw [if_neg (by omega)]
          rw [← e0, ← act_ak hx.zero]
          refine (h.th u hu).same (by rw [thOf_act, thOf_set htA, if_neg eu]) (by rw [thOf_set ht2, if_neg eu, hth]) (words_act _ _ _) (fun a e => ?_)
          exact own_act (s := setTh A t ⟨(thOf A t).pc + 1, (thOf A t).regs, []⟩) eu _ hown.1 hown.2 a e
    · rw [h1] at hk; cases hk
end
end

section
open Go.RowKit

theorem ended_eq {L L' : Nat → Nat} {A S : Sx} (hl : S.ths.length = A.ths.length) (h : ∀ t, t < A.ths.length → endedT L' S t = endedT L A t ∧ (thOf S t).wait = (thOf A t).wait) : endedX L' S = endedX L A := by
  unfold endedX
  rw [hl]
  apply Bool.eq_iff_iff.mpr
  rw [List.all_eq_true, List.all_eq_true]
  constructor
  · intro h1 t ht
    have h2 := h1 t ht
    have := h t (by simpa using ht)
    rw [this.1, this.2] at h2
    exact h2
  · intro h1 t ht
    have h2 := h1 t ht
    have := h t (by simpa using ht)
    rw [this.1, this.2]
    exact h2
section
variable {n m lk rg : Nat} {L L' : Nat → Nat} {X X' : Nat → Nat → Nat → Int} {pl : Nat → Nat → Nat} {mode : Int}
theorem FSt.begin (hR : FullR n L X L' X' pl) {s0 : Sx} (hs : s0.ths.length = n) (hf : s0.fell = false) (hb : ∀ t, t < n → (thOf s0 t).wait = [] ∧ (thOf s0 t).pc = 0) : FSt n L X pl s0 s0 :=
  ⟨hs, rfl, rfl, rfl, hf, fun t ht => Or.inl (by
    have h1 := hb t ht
    have h2 := hR.z t ht
    unfold AtPl
    cases e : thOf s0 t with
    | mk pc rs w =>
      rw [e] at h1
      simp only at h1
      simp only [h1.2, h2])⟩
theorem full_fwd (hR : FullR n L X L' X' pl) (hmode : 0 < mode) (hc : COk n L X m lk rg) {s0 S : Sx} (hs : SOk n L m lk rg 0 s0) (hf : s0.fell = false) (hb : ∀ t, t < n → (thOf s0 t).wait = [] ∧ (thOf s0 t).pc = 0) (h : Rch (nxX L' X' mode) s0 S) : ∃ A, Rch (nxX L X 0) s0 A ∧ FSt n L X pl A S := by
  induction h with
  | base => exact ⟨s0, .base, FSt.begin hR hs.ths hf hb⟩
  | step _ ht ih =>
    obtain ⟨A, hA, hI⟩ := ih
    have hok := reach_ok hs hf hc (by omega) hA
    exact hI.step hR hmode hA hok.1 hok.2 ht
theorem mov_at (hR : FullR n L X L' X' pl) {A S : Sx} {t : Nat} (ht : t < n) (h1 : AtPl pl A S t) (hl : (thOf A t).pc < L t) : MovO (pl t) (opT X A t 0) (opT X A t 1) (opT X A t 2) (opT X A t 3) (opT X' S t 0) (opT X' S t 1) (opT X' S t 2) (opT X' S t 3) := by
  have := hR.mv t _ ht hl
  unfold opT
  rw [h1]
  exact this
/-- Each outcome of the fenced program with stores that wait is one of the plain one without. -/
theorem full_out (hR : FullR n L X L' X' pl) (hmode : 0 < mode) (hc : COk n L X m lk rg) {s0 S : Sx} (hs : SOk n L m lk rg 0 s0) (hf : s0.fell = false) (hb : ∀ t, t < n → (thOf s0 t).wait = [] ∧ (thOf s0 t).pc = 0) (h : Rch (nxX L' X' mode) s0 S) {o : Oc} (ho : o ∈ outsX L' X' mode S) : ∃ A, Rch (nxX L X 0) s0 A ∧ o ∈ outsX L X 0 A := by
  obtain ⟨A, hA, hI⟩ := full_fwd hR hmode hc hs hf hb h
  obtain ⟨hok, hAf⟩ := reach_ok hs hf hc (by omega) hA
  refine ⟨A, hA, ?_⟩
  have hwl : ∀ t, t < S.ths.length → (thOf S t).wait.length ≤ 3 := fun t ht => by
    rcases hI.th t (by rw [← hI.len]; exact ht) with h1 | ⟨x, _, _, h1⟩ | ⟨i, _, _, _, h1⟩
    · rw [h1, hok.bare rfl t (by rw [← hI.len]; exact ht)]; simp
    · rw [h1]; simp
    · rw [h1]; simp
  rcases outs_cases hI.fell hwl ho with ⟨hm, rfl⟩ | ⟨t, ht, ha, he, rfl⟩
  · rw [moves_nil] at hm
    have hat : ∀ t, t < n → AtPl pl A S t := fun t ht => by
      obtain ⟨h1, h2⟩ := hm t (by rw [hI.len]; exact ht)
      rcases hI.th t ht with h3 | ⟨x, _, _, h3⟩ | ⟨i, hi, hw, _, h3⟩
      · exact h3
      · rw [h3] at h2; cases h2
      · exfalso
        have h12 := hR.st t i ht hi hw
        have : ableT L' X' S t = true := by
          unfold ableT endedT opT
          rw [h3]
          simp only
          rw [decide_eq_false (by omega), h12.2.2]
          rfl
        rw [this] at h1
        cases h1
    have hae := fun t ht => at_able (hat t ht) (hok.pc t ht) (hR.e t ht) (hR.lt t _ ht) (X := X) (X' := X') (mov_at hR ht (hat t ht)) hI.own
    have hmA : movesX L X 0 A = [] := moves_nil.mpr fun t ht => by
      have htn : t < n := by rw [← hok.ths]; exact ht
      exact ⟨by rw [← (hae t htn).2]; exact (hm t (by rw [hI.len]; exact htn)).1, hok.bare rfl t htn⟩
    have := outs_end hmA
    rw [← ended_eq (L := L) (L' := L') (A := A) (S := S) (by rw [hI.len, hok.ths]) (fun t ht => by
      have htn : t < n := by rw [← hok.ths]; exact ht
      exact ⟨(hae t htn).1, by rw [hat t htn]⟩), ← hI.words, ← hI.prints] at this
    exact this
  · have htn : t < n := by rw [← hI.len]; exact ht
    rw [hI.prints]
    rcases hI.th t htn with h1 | ⟨x, hl, hx, h1⟩ | ⟨i, hi, hw, _, h1⟩
    · have hae := at_able h1 (hok.pc t htn) (hR.e t htn) (hR.lt t _ htn) (X := X) (X' := X') (mov_at hR htn h1) hI.own
      rw [hae.2] at ha
      have hl := able_lt ha
      have hmv := mov_at hR htn h1 hl
      have hAw := hok.bare rfl t htn
      refine outs_fall (by rw [hok.ths]; exact htn) ha ?_
      cases hwt : wtO (opT X A t 0) with
      | true =>
        rcases store_eff hwt with e | ⟨x, hx, e⟩
        · exact e
        · exfalso
          have := ((at_store h1 hmv hI.words hI.own).mpr hx).eff (by rw [h1]; exact hAw)
          rw [he] at this
          cases this
      | false =>
        have := at_eff h1 hmv (hR.nx t _ htn hl hwt) hI.words hI.own
        rw [he] at this
        cases e : effT X A t with
        | none => rfl
        | some q => rw [e] at this; cases this
    · exfalso
      have := able_13 ha (Or.inl (by unfold opT; rw [h1]; exact (hR.st t _ htn hl hx.wt).2.2))
      rw [h1] at this
      cases this
    · exfalso
      have h12 : opT X' S t 0 = 12 := by unfold opT; rw [h1]; exact (hR.st t i htn hi hw).2.2
      unfold effT effX at he
      rw [h12] at he
      simp at he
/-- All threads at their new places. -/
def mapS (pl : Nat → Nat → Nat) (s : Sx) : Sx := { s with ths := s.ths.mapIdx fun t x => ⟨pl t x.pc, x.regs, x.wait⟩ }
theorem map_len (s : Sx) : (mapS pl s).ths.length = s.ths.length := by simp [mapS]
theorem map_at {s : Sx} {t : Nat} (ht : t < s.ths.length) : AtPl pl s (mapS pl s) t := by
  unfold AtPl thOf mapS
  simp [List.getD, ht]
theorem map_set (s : Sx) (t p : Nat) (r : List Int) (w : List Wt) : mapS pl (setTh s t ⟨p, r, w⟩) = setTh (mapS pl s) t ⟨pl t p, r, w⟩ := by
  unfold mapS setTh
  simp only
  congr 1
  apply List.ext_getElem
  · simp
  · intro i h1 h2
    by_cases e : t = i
    · subst e; simp
    · simp [e]
theorem map_begin (hz : ∀ t, t < n → pl t 0 = 0) {s0 : Sx} (hs : s0.ths.length = n) (hb : ∀ t, t < n → (thOf s0 t).pc = 0) : mapS pl s0 = s0 := by
  have : (mapS pl s0).ths = s0.ths := by
    apply List.ext_getElem
    · simp [mapS]
    · intro i h1 h2
      have hi : i < n := by rw [← hs]; exact h2
      have h3 := hb i hi
      have e : thOf s0 i = s0.ths[i] := by simp [thOf, List.getD, h2]
      rw [e] at h3
      simp only [mapS, List.getElem_mapIdx, h3, hz i hi]
      cases e2 : s0.ths[i] with
      | mk a b c =>
        rw [e2] at h3
        simp only at h3
        rw [h3]
  cases s0
  unfold mapS at this ⊢
  simp only at this ⊢
  rw [this]
theorem map_act (s : Sx) (t : Nat) (k : Ak) (h1 : ∀ a v, k ≠ .put a v) (h2 : ∀ a, k ≠ .free a) : mapS pl (actX mode s t k) = actX mode (mapS pl s) t k := by
  cases k with
  | put a v => exact absurd rfl (h1 a v)
  | free a => exact absurd rfl (h2 a)
  | no => rfl
  | take a => rfl
  | swap a v => rfl
  | say v => rfl
theorem map_done (s : Sx) (x : Wt) : mapS pl (doneW s x) = doneW (mapS pl s) x := by unfold doneW; split <;> rfl
end
end

section
open Go.RowKit

theorem led_mov (pl : Nat → Nat) (x : I4) : MovO pl x.1 x.2.1 x.2.2.1 x.2.2.2 (nth4 (ledO pl x) 0) (nth4 (ledO pl x) 1) (nth4 (ledO pl x) 2) (nth4 (ledO pl x) 3) := ⟨rfl, rfl, rfl, rfl⟩
/-- The new orders as numbers. -/
def lenR (b : Nat → Nat → List I4) (L : Nat → Nat) : Nat → Nat := fun t => (codeR (b t) (L t)).length
def numR (b : Nat → Nat → List I4) (L : Nat → Nat) : Nat → Nat → Nat → Int := fun t i q => nth4 ((codeR (b t) (L t)).getD i fenceI) q
def bFull (X : Nat → Nat → Nat → Int) : Nat → Nat → List I4 := fun t i => bWith (wtO (X t i 0)) (ordAt X t i)
theorem full_rel (n : Nat) (L : Nat → Nat) (X : Nat → Nat → Nat → Int) : FullR n L X (lenR (bFull X) L) (numR (bFull X) L) (fun t => plR (bFull X t)) := by
  have h1 : ∀ t i, 0 < (bFull X t i).length := fun t i => by unfold bFull bWith; split <;> simp
  have h2 : ∀ t i d, (bFull X t i).getD 0 d = ordAt X t i := fun t i d => by unfold bFull bWith; split <;> rfl
  have hlt : ∀ t i, i < L t → plR (bFull X t) i + (bFull X t i).length ≤ lenR (bFull X) L t := fun t i hi => by
    unfold lenR
    rw [code_len]
    exact pl_mono (b := bFull X t) (i := i + 1) (by omega)
  refine ⟨fun t _ => rfl, fun t _ => (code_len _).symm, fun t i _ hi => ?_, fun t i _ hi => ?_, fun t i _ hi hw => ?_, fun t i _ hi hw => ?_⟩
  · have := hlt t i hi
    have := h1 t i
    omega
  · have := code_at (b := bFull X t) (k := 0) (h1 t i) hi fenceI
    rw [h2, Nat.add_zero] at this
    unfold numR
    rw [this]
    exact led_mov _ (ordAt X t i)
  · show plR _ _ + _ = _
    unfold bFull bWith
    rw [hw]
    rfl
  · have hl : (bFull X t i).length = 2 := by unfold bFull bWith; rw [hw]; rfl
    refine ⟨?_, ?_, ?_⟩
    · show plR _ _ + _ = _
      rw [hl]
    · have := hlt t i hi
      omega
    · have := code_at (b := bFull X t) (k := 1) (by omega) hi fenceI
      unfold numR
      rw [this]
      unfold bFull bWith
      rw [hw]
      rfl
/-- New orders may be, where the old ones may. -/
theorem led_ok {rg m lk sz : Nat} {pl : Nat → Nat} {x : I4} (h : ordE rg m lk sz x.1 x.2.1 x.2.2.1 x.2.2.2 = 0) {sz' : Nat} (hp : ∀ a, a ≤ sz → pl a ≤ sz') : ordE rg m lk sz' (ledO pl x).1 (ledO pl x).2.1 (ledO pl x).2.2.1 (ledO pl x).2.2.2 = 0 := by
  obtain ⟨op, a, b, c⟩ := x
  show ordE rg m lk sz' op (if op = 14 then _ else _) (if op = 15 then _ else _) c = 0
  simp only at h
  have ho := ok_op h
  by_cases h14 : op = 14
  · subst h14
    have h1 := ok_three (op := 14) rfl h
    have h2 := okN_place h1.1
    have h3 := hp a.toNat (by omega)
    unfold ordE
    simp only [kd, Int.reduceEq, ↓reduceIte]
    have h4 : okN rg m lk sz' 4 (pl a.toNat : Int) = true := by
      unfold okN lim
      simp
      omega
    rw [h4]
    have h5 : okN rg m lk sz' 0 b = true := h1.2.1
    have h6 : okN rg m lk sz' 0 c = true := h1.2.2
    rw [h5, h6]
    rfl
  · by_cases h15 : op = 15
    · subst h15
      have h1 := ok_three (op := 15) rfl h
      have h2 := okN_place h1.2.1
      have h3 := hp b.toNat (by omega)
      unfold ordE
      simp only [kd, Int.reduceEq, ↓reduceIte]
      have h4 : okN rg m lk sz' 4 (pl b.toNat : Int) = true := by
        unfold okN lim
        simp
        omega
      rw [h4]
      have h5 : okN rg m lk sz' 1 a = true := h1.1
      have h6 : okN rg m lk sz' 0 c = true := h1.2.2
      rw [h5, h6]
      rfl
    · rw [if_neg h14, if_neg h15]
      rcases op_cases op with e | rfl | rfl | rfl | rfl | rfl | rfl | rfl | rfl | rfl | rfl | rfl | rfl | rfl | rfl | rfl | rfl | rfl | rfl
      · omega
      all_goals first
        | exact absurd rfl h14
        | exact absurd rfl h15
        | exact h
theorem new_ok {n m lk rg : Nat} {L : Nat → Nat} {X : Nat → Nat → Nat → Int} (hc : COk n L X m lk rg) (b : Nat → Nat → List I4) (hb : ∀ t i, t < n → i < L t → ∀ x, x ∈ b t i → x = ordAt X t i ∨ x = fenceI) : ∀ t i, t < n → i < lenR b L t → ordE rg m lk (lenR b L t) (numR b L t i 0) (numR b L t i 1) (numR b L t i 2) (numR b L t i 3) = 0 := by
  intro t j ht hj
  unfold lenR at hj
  rw [code_len] at hj
  obtain ⟨i, k, hi, hk, rfl⟩ := raw_find hj
  have h1 := code_at hk hi fenceI
  have hx : (b t i).getD k fenceI ∈ b t i := by
    rw [List.getD_eq_getElem?_getD, List.getElem?_eq_getElem hk]
    exact List.getElem_mem hk
  unfold numR
  rw [h1]
  refine led_ok (sz := L t) (x := (b t i).getD k fenceI) ?_ (fun a ha => by unfold lenR; rw [code_len]; exact pl_mono ha)
  rcases hb t i ht hi _ hx with e | e
  · rw [e]; exact hc.ord t i ht hi
  · rw [e]; rfl
/-- The first thread that is too long. -/
def longR (L : Nat → Nat) (t : Nat) : Option (Int × Int) := if 400 < L t then some (1, 0) else none
theorem bad_all {E : Nat → Int} : ∀ (f k : Nat), (∀ i, k ≤ i → i < k + f → E i = 0) → firstBad E f k = none
  | 0, _, _ => rfl
  | f + 1, k, h => by
    rw [firstBad, if_pos (h k (by omega) (by omega))]
    exact bad_all f (k + 1) (fun i h1 h2 => h i (by omega) (by omega))
theorem first_congr {R S : Nat → Option (Int × Int)} : ∀ (f k : Nat), (∀ i, k ≤ i → i < k + f → R i = S i) → firstThread R f k = firstThread S f k
  | 0, _, _ => rfl
  | f + 1, k, h => by
    rw [firstThread, firstThread, h k (by omega) (by omega)]
    rw [first_congr f (k + 1) (fun i h1 h2 => h i (by omega) (by omega))]
/-- All that can be wrong with new orders is that there are too many. -/
theorem new_chk {n m lk rg : Nat} {L : Nat → Nat} {X : Nat → Nat → Nat → Int} (hc : COk n L X m lk rg) (hn : 0 < n) (b : Nat → Nat → List I4) (hb : ∀ t i, t < n → i < L t → ∀ x, x ∈ b t i → x = ordAt X t i ∨ x = fenceI) : chk n (lenR b L) (numR b L) m lk rg = firstThread (longR (lenR b L)) n 0 := by
  have h0 : sizesE n m lk rg = 0 := by
    have h1 := hc.n4
    have h2 := hc.m64
    have h3 := hc.lk4
    have h4 := hc.rg0
    have h5 := hc.rg2
    unfold sizesE
    rw [if_neg (by omega), if_neg (by omega)]
  unfold chk
  rw [h0, if_neg (by simp)]
  refine first_congr n 0 fun t _ ht => ?_
  have htn : t < n := by omega
  unfold thr longR
  by_cases e : 400 < lenR b L t
  · rw [if_pos e, if_pos e]
  · rw [if_neg e, if_neg e]
    exact bad_all _ _ fun i _ hi => new_ok hc b hb t i htn (by omega)
theorem long_none {L : Nat → Nat} : ∀ (f k : Nat), (∀ i, k ≤ i → i < k + f → L i ≤ 400) → firstThread (longR L) f k = (0, 0, 0)
  | 0, _, _ => rfl
  | f + 1, k, h => by
    rw [firstThread]
    have : longR L k = none := by unfold longR; rw [if_neg (by have := h k (by omega) (by omega); omega)]
    rw [this]
    exact long_none f (k + 1) (fun i h1 h2 => h i (by omega) (by omega))
theorem long_cases {L : Nat → Nat} : ∀ (f k : Nat), (firstThread (longR L) f k = (0, 0, 0) ∧ ∀ i, k ≤ i → i < k + f → L i ≤ 400) ∨ ∃ t, k ≤ t ∧ t < k + f ∧ firstThread (longR L) f k = (1, (t : Int), 0) ∧ 400 < L t ∧ ∀ i, k ≤ i → i < t → L i ≤ 400
  | 0, k => Or.inl ⟨rfl, fun i h1 h2 => absurd h2 (by omega)⟩
  | f + 1, k => by
    by_cases e : 400 < L k
    · refine Or.inr ⟨k, by omega, by omega, ?_, e, fun i h1 h2 => absurd h2 (by omega)⟩
      rw [firstThread]
      unfold longR
      rw [if_pos e]
    · have hk : longR L k = none := by unfold longR; rw [if_neg e]
      rw [firstThread, hk]
      simp only
      rcases long_cases f (k + 1) with ⟨h1, h2⟩ | ⟨t, h1, h2, h3, h4, h5⟩
      · refine Or.inl ⟨h1, fun i h3 h4 => ?_⟩
        by_cases e2 : i = k
        · rw [e2]; omega
        · exact h2 i (by omega) (by omega)
      · refine Or.inr ⟨t, by omega, by omega, h3, h4, fun i h6 h7 => ?_⟩
        by_cases e2 : i = k
        · rw [e2]; omega
        · exact h5 i (by omega) h7
theorem new_cok {n m lk rg : Nat} {L : Nat → Nat} {X : Nat → Nat → Nat → Int} (hc : COk n L X m lk rg) (b : Nat → Nat → List I4) (hb : ∀ t i, t < n → i < L t → ∀ x, x ∈ b t i → x = ordAt X t i ∨ x = fenceI) (hl : ∀ t, t < n → lenR b L t ≤ 400) : COk n (lenR b L) (numR b L) m lk rg := ⟨hc.n4, hl, hc.m64, hc.lk4, hc.rg0, hc.rg2, new_ok hc b hb⟩
theorem bFull_in (X : Nat → Nat → Nat → Int) (t i : Nat) (x : I4) (h : x ∈ bFull X t i) : x = ordAt X t i ∨ x = fenceI := by
  unfold bFull bWith at h
  split at h
  · simpa using h
  · exact Or.inl (by simpa using h)
end

end Go.Proofs.YtgofbkgfonlceadGreatDoor
