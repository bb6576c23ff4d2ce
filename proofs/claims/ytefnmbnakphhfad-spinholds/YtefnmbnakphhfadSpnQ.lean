/-
  A program with words in place of its locks: each of its steps is one of the program with locks, or none. Plain functions.
-/
import Derived.Test.YtefnmbnakphhfadSpnP
namespace Go.Proofs.Ytefnmbnakphhfad
open Go.RowKit

/-- Nobody falls. -/
def NoFall (n : Nat) (L : Nat → Nat) (X : Nat → Nat → Nat → Int) (mode : Int) (s0 : Sx) : Prop := ∀ A, Rch (nxX L X mode) s0 A → ∀ t, t < n → ableT L X A t = true → effT X A t ≠ none
theorem opT_at {X : Nat → Nat → Nat → Int} {s : Sx} {t j : Nat} (hj : (thOf s t).pc = j) {o a b c : Int} (h : ordAt X t j = (o, a, b, c)) : opT X s t 0 = o ∧ opT X s t 1 = a ∧ opT X s t 2 = b ∧ opT X s t 3 = c := by
  unfold ordAt at h
  simp only [Prod.mk.injEq] at h
  unfold opT
  rw [hj]
  exact h
theorem eff_const {X : Nat → Nat → Nat → Int} {s : Sx} {t j : Nat} (hj : (thOf s t).pc = j) {a b c : Int} (h : ordAt X t j = (1, a, b, c)) : effT X s t = some (j + 1, (thOf s t).regs.set a.toNat b, .no) := by
  obtain ⟨h0, h1, h2, _⟩ := opT_at hj h
  unfold effT effX
  rw [h0, h1, h2, hj]
  simp only [↓reduceIte]
theorem eff_zero {X : Nat → Nat → Nat → Int} {s : Sx} {t j : Nat} (hj : (thOf s t).pc = j) {a b c : Int} (h : ordAt X t j = (15, a, b, c)) : effT X s t = some (if (thOf s t).regs.getD a.toNat 0 = 0 then b.toNat else j + 1, (thOf s t).regs, .no) := by
  obtain ⟨h0, h1, h2, _⟩ := opT_at hj h
  unfold effT effX
  rw [h0, h1, h2, hj]
  simp only [Int.reduceEq, ↓reduceIte]
  split <;> rfl
theorem eff_store {X : Nat → Nat → Nat → Int} {s : Sx} {t j : Nat} (hj : (thOf s t).pc = j) {a b c : Int} (h : ordAt X t j = (9, a, b, c)) : effT X s t = some (j + 1, (thOf s t).regs, .put a ((thOf s t).regs.getD b.toNat 0)) := by
  obtain ⟨h0, h1, h2, _⟩ := opT_at hj h
  unfold effT effX
  rw [h0, h1, h2, hj]
  simp only [Int.reduceEq, ↓reduceIte]
theorem eff_cas {X : Nat → Nat → Nat → Int} {s : Sx} {t j : Nat} (hj : (thOf s t).pc = j) (hw : (thOf s t).wait = []) {a b c : Int} (h : ordAt X t j = (13, a, b, c)) : effT X s t = if s.words.getD a.toNat 0 = (thOf s t).regs.getD b.toNat 0 then some (j + 1, (thOf s t).regs.set b.toNat 1, .swap a ((thOf s t).regs.getD c.toNat 0)) else some (j + 1, (thOf s t).regs.set b.toNat 0, .no) := by
  obtain ⟨h0, h1, h2, h3⟩ := opT_at hj h
  unfold effT effX
  rw [h0, h1, h2, h3, hj]
  simp only [Int.reduceEq, ↓reduceIte, findsW_bare hw]
theorem able_at {L : Nat → Nat} {X : Nat → Nat → Nat → Int} {s : Sx} {t j : Nat} (hj : (thOf s t).pc = j) (hl : j < L t) {o a b c : Int} (h : ordAt X t j = (o, a, b, c)) (ho : o = 1 ∨ o = 15 ∨ (o = 13 ∧ (thOf s t).wait = []) ∨ (o = 9 ∧ (thOf s t).wait.length < 3)) : ableT L X s t = true := by
  obtain ⟨h0, _⟩ := opT_at hj h
  unfold ableT endedT
  rw [h0, hj, decide_eq_false (by omega)]
  rcases ho with rfl | rfl | ⟨rfl, hw⟩ | ⟨rfl, hw⟩
  · rfl
  · rfl
  · rw [hw]; rfl
  · simp only [Bool.false_eq_true, ↓reduceIte, true_or]
    exact decide_eq_true hw
section
variable {n m lk rg : Nat} {L L' : Nat → Nat} {X X' : Nat → Nat → Nat → Int} {pl : Nat → Nat → Nat} {mode : Int}
theorem pos_lt (hR : SpinR n m L X L' X' pl) {t i j : Nat} {rs : List Int} (ht : t < n) (h : PosT L X pl t i j rs) : (j = pl t i ∧ (i < L t → j < L' t) ∧ (i = L t → j = L' t)) ∨ j < L' t := by
  rcases h with h | ⟨h1, h2, h3, _⟩ | ⟨h1, h2, h3, _⟩ | ⟨h1, h2, h3, _⟩ | ⟨h1, h2, h3, _⟩ | ⟨k, h1, h2, _, h3, _⟩
  · exact Or.inl ⟨h, fun e => by rw [h]; exact hR.lt t i ht e, fun e => by rw [h, e]; exact hR.e t ht⟩
  all_goals right
  · have := (hR.lk t i ht h1 h2).2.1; omega
  · have := (hR.lk t i ht h1 h2).2.1; omega
  · have := (hR.lk t i ht h1 h2).2.1; omega
  · have := (hR.ul t i ht h1 h2).2.1; omega
  · have := (hR.lk t k ht h1 h2).2.1; omega
/-- An order that is not of locks: both are able, and do the same. -/
theorem SSt.plain (hR : SpinR n m L X L' X' pl) (hc : COk n L X m lk rg) (hg : rg ≤ 6) {A S : Sx} (h : SSt n m rg L X pl A S) (hok : SOk n L m lk rg mode A) {t : Nat} (ht : t < n) (hp : (thOf S t).pc = pl t (thOf A t).pc) (hl : (thOf A t).pc < L t) (h17 : opT X A t 0 ≠ 17) (h18 : opT X A t 0 ≠ 18) :
    ableT L' X' S t = ableT L X A t ∧ ∀ p r k, effT X A t = some (p, r, k) → ∃ r', effT X' S t = some (pl t p, r', k) ∧ akM m k = k ∧ SSt n m rg L X pl (actX mode (setTh A t ⟨p, r, (thOf A t).wait⟩) t k) (actX mode (setTh S t ⟨pl t p, r', (thOf S t).wait⟩) t k) := by
  obtain ⟨hnx, hmv⟩ := hR.mv t _ ht hl h17 h18
  have hmv' : MovO (pl t) (opT X A t 0) (opT X A t 1) (opT X A t 2) (opT X A t 3) (opT X' S t 0) (opT X' S t 1) (opT X' S t 2) (opT X' S t 3) := by unfold opT; rw [hp]; exact hmv
  have hth := h.th t ht
  refine ⟨?_, fun p r k he => ?_⟩
  · unfold ableT
    have e1 : endedT L' S t = false := by
      unfold endedT
      rw [hp]
      have := hR.lt t _ ht hl
      exact decide_eq_false (by omega)
    have e2 : endedT L A t = false := by unfold endedT; exact decide_eq_false (by omega)
    rw [e1, e2, hmv'.o, hth.wait, List.length_map]
    simp only [Bool.false_eq_true, ↓reduceIte, if_neg h17]
  · have ho := hc.ord t _ ht hl
    have ho : ordE rg m lk (L t) (opT X A t 0) (opT X A t 1) (opT X A t 2) (opT X A t 3) = 0 := ho
    unfold effT at he
    rw [hok.words] at he
    have hak := eff_ak ho he
    obtain ⟨r', e', hr'⟩ := eff_rg (m' := S.words.length) (rd' := findsW S t) (fr' := freesW S t) ho h17 h18 hth.rg (hok.regs t ht) hg (fun w h0 hw => h.finds hok ht h0 hw) (by rw [h.words, List.length_append, hok.words]; omega) he
    have hkk : akM m k = k := by
      cases k with
      | take a => exact absurd (eff_take (he : effX _ _ _ _ _ _ _ _ _ = _)).1 h17
      | free a => exact absurd (eff_free (he : effX _ _ _ _ _ _ _ _ _ = _)).1 h18
      | no => rfl
      | put a v => rfl
      | swap a v => rfl
      | say v => rfl
    refine ⟨r', ?_, hkk, ?_⟩
    · unfold effT
      rw [hp, ← hnx, eff_mov hmv', e']
      rfl
    · have h1 : SSt n m rg L X pl (setTh A t ⟨p, r, (thOf A t).wait⟩) (setTh S t ⟨pl t p, r', (thOf S t).wait⟩) := h.set hok.ths ht ⟨hr', hth.wait, Or.inl rfl⟩
      have h2 := h1.act (mode := mode) hok.words (by simp [setTh, hok.ths]) ht hak
      rw [hkk] at h2
      exact h2
/-- A lock is taken. -/
theorem SSt.takes {A S : Sx} (h : SSt n m rg L X pl A S) (hc : COk n L X m lk rg) (hok : SOk n L m lk rg mode A) {t : Nat} (ht : t < n) (hl : (thOf A t).pc < L t) (h17 : opT X A t 0 = 17) {p' : Nat} {r' : List Int} (hs : STh L X pl m rg t ⟨(thOf A t).pc + 1, (thOf A t).regs, (thOf A t).wait⟩ ⟨p', r', (thOf S t).wait⟩) :
    effT X A t = some ((thOf A t).pc + 1, (thOf A t).regs, .take (opT X A t 1)) ∧ SSt n m rg L X pl (actX mode (setTh A t ⟨(thOf A t).pc + 1, (thOf A t).regs, (thOf A t).wait⟩) t (.take (opT X A t 1))) (actX mode (setTh S t ⟨p', r', (thOf S t).wait⟩) t (.swap ((m : Int) + opT X A t 1) 1)) := by
  have ho := hc.ord t _ ht hl
  have ho' : ordE rg m lk (L t) 17 (opT X A t 1) (opT X A t 2) (opT X A t 3) = 0 := by rw [← h17]; exact ho
  have ok := ok_lock (Or.inl rfl) ho'
  refine ⟨?_, (h.set hok.ths ht hs).act (lk := lk) (k := .take (opT X A t 1)) hok.words (by simp [setTh, hok.ths]) ht ok⟩
  unfold effT effX
  rw [h17]
  simp only [Int.reduceEq, ↓reduceIte]
/-- A lock is let free. -/
theorem SSt.frees {A S : Sx} (h : SSt n m rg L X pl A S) (hc : COk n L X m lk rg) (hok : SOk n L m lk rg mode A) {t : Nat} (ht : t < n) (hl : (thOf A t).pc < L t) (h18 : opT X A t 0 = 18) (he : effT X A t ≠ none) {p' : Nat} {r' : List Int} (hs : STh L X pl m rg t ⟨(thOf A t).pc + 1, (thOf A t).regs, (thOf A t).wait⟩ ⟨p', r', (thOf S t).wait⟩) :
    effT X A t = some ((thOf A t).pc + 1, (thOf A t).regs, .free (opT X A t 1)) ∧ SSt n m rg L X pl (actX mode (setTh A t ⟨(thOf A t).pc + 1, (thOf A t).regs, (thOf A t).wait⟩) t (.free (opT X A t 1))) (actX mode (setTh S t ⟨p', r', (thOf S t).wait⟩) t (.put ((m : Int) + opT X A t 1) 0)) := by
  have ho := hc.ord t _ ht hl
  have ho' : ordE rg m lk (L t) 18 (opT X A t 1) (opT X A t 2) (opT X A t 3) = 0 := by rw [← h18]; exact ho
  have ok := ok_lock (Or.inr rfl) ho'
  refine ⟨?_, (h.set hok.ths ht hs).act (lk := lk) (k := .free (opT X A t 1)) hok.words (by simp [setTh, hok.ths]) ht ok⟩
  unfold effT effX at he ⊢
  rw [h18] at he ⊢
  simp only [Int.reduceEq, ↓reduceIte] at he ⊢
  split at he
  · rename_i h1
    rw [if_pos h1]
  · exact absurd rfl he
/-- What waits is done. -/
theorem SSt.fin {A S : Sx} (h : SSt n m rg L X pl A S) (hok : SOk n L m lk rg mode A) {t : Nat} (ht : t < n) (hw : 0 < (thOf A t).wait.length) :
    SSt n m rg L X pl (setTh (doneW A ((thOf A t).wait.getD 0 default)) t { thOf A t with wait := (thOf A t).wait.eraseIdx 0 }) (setTh (doneW S ((thOf S t).wait.getD 0 default)) t { thOf S t with wait := (thOf S t).wait.eraseIdx 0 }) := by
  have hth := h.th t ht
  have hx : (thOf A t).wait.getD 0 default ∈ (thOf A t).wait := by
    rw [List.getD_eq_getElem?_getD, List.getElem?_eq_getElem hw]
    exact List.getElem_mem hw
  have e1 : (thOf S t).wait.getD 0 default = wmap m ((thOf A t).wait.getD 0 default) := by
    rw [hth.wait]
    simp [List.getD, hw]
  have hk := hok.wok t ht _ hx
  rw [e1]
  have hd := h.done hok.words hk.1.1 (fun e => by have := hk.1.2; rw [e] at this; exact this)
  refine hd.set ?_ ht ⟨hth.rg, ?_, hth.pos⟩
  · unfold doneW
    split <;> exact hok.ths
  · show (thOf S t).wait.eraseIdx 0 = ((thOf A t).wait.eraseIdx 0).map (wmap m)
    rw [hth.wait]
    cases (thOf A t).wait <;> rfl
theorem SSt.wlen {A S : Sx} (h : SSt n m rg L X pl A S) (hok : SOk n L m lk rg mode A) : ∀ t, t < S.ths.length → (thOf S t).wait.length ≤ 3 := fun t ht => by
  have htn : t < n := by rw [← h.len]; exact ht
  rw [(h.th t htn).wait, List.length_map]
  exact hok.wlen t htn
/-- A step of the program with words: the one with locks does the same, or stands still. -/
theorem SSt.step (hR : SpinR n m L X L' X' pl) (hc : COk n L X m lk rg) (hg : rg ≤ 6) (hmode : mode = 0 ∨ mode = 1) {s0 A S S' : Sx} (hnf : NoFall n L X mode s0) (hA : Rch (nxX L X mode) s0 A) (hok : SOk n L m lk rg mode A) (hAf : A.fell = false) (h : SSt n m rg L X pl A S) (hn : S' ∈ nxX L' X' mode S) : ∃ A', Rch (nxX L X mode) s0 A' ∧ SSt n m rg L X pl A' S' := by
  have hAl := hok.ths
  rcases nx_cases h.fell (h.wlen hok) hn with ⟨t, p, rs, k, ht, ha, he, rfl⟩ | ⟨t, k, ht, hk, hmay, rfl⟩
  · have htn : t < n := by rw [← h.len]; exact ht
    have htA : t < A.ths.length := by rw [hAl]; exact htn
    have hth := h.th t htn
    have hjl := able_lt ha
    have hr8 := hth.rg.1
    rcases hth.pos with hp | ⟨h1, h2, h3, h4⟩ | ⟨h1, h2, h3, h4, h5⟩ | ⟨h1, h2, h3, h4⟩ | ⟨h1, h2, h3, h4⟩ | ⟨i, h1, h2, h3, h4, h5⟩
    · have hl : (thOf A t).pc < L t := by
        have := hok.pc t htn
        rcases Nat.lt_or_ge (thOf A t).pc (L t) with h1 | h1
        · exact h1
        · have e : (thOf A t).pc = L t := by omega
          rw [hp, e, hR.e t htn] at hjl
          omega
      by_cases h17 : X t (thOf A t).pc 0 = 17
      · have q := (hR.lk t _ htn hl h17).2.2.1
        rw [eff_const hp q] at he
        cases he
        refine ⟨A, hA, ?_⟩
        have := h.set (a := thOf A t) (s := ⟨pl t (thOf A t).pc + 1, (thOf S t).regs.set 6 0, (thOf S t).wait⟩) hAl htn ⟨hth.rg.far hg _, hth.wait, Or.inr (Or.inl ⟨hl, h17, rfl, get_set_same (by omega) _⟩)⟩
        rw [set_th htA] at this
        exact this
      by_cases h18 : X t (thOf A t).pc 0 = 18
      · have q := (hR.ul t _ htn hl h18).2.2.1
        rw [eff_const hp q] at he
        cases he
        refine ⟨A, hA, ?_⟩
        have := h.set (a := thOf A t) (s := ⟨pl t (thOf A t).pc + 1, (thOf S t).regs.set 6 0, (thOf S t).wait⟩) hAl htn ⟨hth.rg.far hg _, hth.wait, Or.inr (Or.inr (Or.inr (Or.inr (Or.inl ⟨hl, h18, rfl, get_set_same (by omega) _⟩))))⟩
        rw [set_th htA] at this
        exact this
      obtain ⟨e1, e2⟩ := h.plain hR hc hg hok htn hp hl h17 h18
      rw [e1] at ha
      cases e3 : effT X A t with
      | none => exact absurd e3 (hnf A hA t htn ha)
      | some q =>
        obtain ⟨p2, r2, k2⟩ := q
        obtain ⟨r', e4, _, e5⟩ := e2 p2 r2 k2 e3
        rw [e4] at he
        cases he
        exact ⟨_, rch_eff hA hAf htA ha e3, e5⟩
    · have q := (hR.lk t _ htn h1 h2).2.2.2.1
      rw [eff_const h3 q] at he
      cases he
      refine ⟨A, hA, ?_⟩
      have := h.set (a := thOf A t) (s := ⟨pl t (thOf A t).pc + 1 + 1, (thOf S t).regs.set 7 1, (thOf S t).wait⟩) hAl htn ⟨hth.rg.far (by omega) _, hth.wait, Or.inr (Or.inr (Or.inl ⟨h1, h2, rfl, by rw [get_set_far (by omega)]; exact h4, get_set_same (by omega) _⟩))⟩
      rw [set_th htA] at this
      exact this
    · have q := (hR.lk t _ htn h1 h2).2.2.2.2.1
      have hw : (thOf S t).wait = [] := able_13 ha (Or.inr (Or.inl (opT_at h3 q).1))
      have hwA : (thOf A t).wait = [] := by have := hth.wait; rw [hw] at this; exact List.map_eq_nil_iff.mp this.symm
      have ho := hc.ord t _ htn h1
      rw [h2] at ho
      have ok := ok_lock (Or.inl rfl) ho
      rw [eff_cas h3 hw q, h.lock hok ok.1 ok.2, show ((6 : Int)).toNat = 6 from rfl, show ((7 : Int)).toNat = 7 from rfl, h4, h5] at he
      by_cases ho1 : A.own.getD (X t (thOf A t).pc 1).toNat 0 = -1
      · rw [ho1, show lockV (-1) = 0 from rfl, if_pos rfl] at he
        cases he
        have hab : ableT L X A t = true := by
          unfold ableT endedT
          rw [decide_eq_false (by omega), show opT X A t 0 = 17 from h2, hwA]
          simp only [Bool.false_eq_true, ↓reduceIte, Int.reduceEq, or_self, List.length_nil, decide_true, Bool.true_and]
          exact decide_eq_true ho1
        obtain ⟨e1, e2⟩ := h.takes (mode := mode) hc hok htn h1 h2 (p' := pl t (thOf A t).pc + 2 + 1) (r' := (thOf S t).regs.set 6 1) ⟨hth.rg.far hg _, hth.wait, Or.inr (Or.inr (Or.inr (Or.inr (Or.inr ⟨_, h1, h2, rfl, rfl, get_set_same (by omega) _⟩))))⟩
        exact ⟨_, rch_eff hA hAf htA hab e1, e2⟩
      · have : lockV (A.own.getD (X t (thOf A t).pc 1).toNat 0) = 1 := by unfold lockV; rw [if_neg ho1]
        rw [this, if_neg (by decide)] at he
        cases he
        refine ⟨A, hA, ?_⟩
        have := h.set (a := thOf A t) (s := ⟨pl t (thOf A t).pc + 2 + 1, (thOf S t).regs.set 6 0, (thOf S t).wait⟩) hAl htn ⟨hth.rg.far hg _, hth.wait, Or.inr (Or.inr (Or.inr (Or.inl ⟨h1, h2, rfl, get_set_same (by omega) _⟩)))⟩
        rw [set_th htA] at this
        exact this
    · have q := (hR.lk t _ htn h1 h2).2.2.2.2.2
      rw [eff_zero h3 q, show ((6 : Int)).toNat = 6 from rfl, if_pos h4] at he
      cases he
      refine ⟨A, hA, ?_⟩
      have := h.set (a := thOf A t) (s := ⟨pl t (thOf A t).pc, (thOf S t).regs, (thOf S t).wait⟩) hAl htn ⟨hth.rg, hth.wait, Or.inl rfl⟩
      rw [set_th htA] at this
      exact this
    · have q := (hR.ul t _ htn h1 h2).2.2.2
      rw [eff_store h3 q, show ((6 : Int)).toNat = 6 from rfl, h4] at he
      cases he
      have hwl : (thOf A t).wait.length < 3 := by
        have : (thOf S t).wait.length < 3 := by
          unfold ableT at ha
          rw [(opT_at h3 q).1] at ha
          split at ha
          · cases ha
          · simp only [true_or, ↓reduceIte] at ha
            exact of_decide_eq_true ha
        rw [hth.wait, List.length_map] at this
        exact this
      have hab : ableT L X A t = true := by
        unfold ableT endedT
        rw [decide_eq_false (by omega), show opT X A t 0 = 18 from h2]
        simp only [Bool.false_eq_true, ↓reduceIte, or_true]
        exact decide_eq_true hwl
      obtain ⟨e1, e2⟩ := h.frees (mode := mode) hc hok htn h1 h2 (hnf A hA t htn hab) (p' := pl t (thOf A t).pc + 1 + 1) (r' := (thOf S t).regs) ⟨hth.rg, hth.wait, Or.inl (hR.ul t _ htn h1 h2).1.symm⟩
      exact ⟨_, rch_eff hA hAf htA hab e1, e2⟩
    · have q := (hR.lk t _ htn h1 h2).2.2.2.2.2
      rw [eff_zero h4 q, show ((6 : Int)).toNat = 6 from rfl, h5, if_neg (by decide)] at he
      cases he
      refine ⟨A, hA, ?_⟩
      have := h.set (a := thOf A t) (s := ⟨pl t i + 3 + 1, (thOf S t).regs, (thOf S t).wait⟩) hAl htn ⟨hth.rg, hth.wait, Or.inl (by rw [h3]; exact (hR.lk t _ htn h1 h2).1.symm)⟩
      rw [set_th htA] at this
      exact this
  · have htn : t < n := by rw [← h.len]; exact ht
    have htA : t < A.ths.length := by rw [hAl]; exact htn
    have hth := h.th t htn
    have hwl : 0 < (thOf A t).wait.length := by
      rw [hth.wait, List.length_map] at hk
      omega
    have hk0 : k = 0 := by
      rcases hmode with e | e
      · have := hok.bare e t htn
        rw [this] at hwl
        cases hwl
      · unfold mayW at hmay
        by_cases e0 : k = 0
        · exact e0
        · rw [if_neg e0, if_pos (Or.inl e)] at hmay
          cases hmay
    subst hk0
    have hr := rch_fin hA htA (fun e => by rw [e] at hwl; cases hwl) hAf
    rw [doX_wait (k := 0) (by omega)] at hr
    exact ⟨_, hr, h.fin hok htn hwl⟩
end

end Go.Proofs.Ytefnmbnakphhfad
