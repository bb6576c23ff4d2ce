/-
  One program does what another one does, but for steps that none sees: their runs come to the same. Plain functions, every machine.
-/
import Derived.Test.YtkailbdjilkneaaDoorEffP
namespace Go.Proofs.YtkailbdjilkneaaDoor
open Go.RowKit

/-- How an order waits: behind stores that are full; while something waits; for a lock. -/
def abK (op : Int) : Nat := if op = 9 ∨ op = 11 ∨ op = 18 then 1 else if op = 12 ∨ op = 13 then 2 else if op = 17 then 3 else 0
/-- What two orders make of their threads goes together. -/
def EfR (Q : Nat → List Int → Nat → List Int → Prop) : Option (Nat × List Int × Ak) → Option (Nat × List Int × Ak) → Prop
  | none, none => True
  | some (p, r, k), some (p', r', k') => k' = k ∧ Q p r p' r'
  | _, _ => False
/-- Threads of one program (X) and of another one (X') that stand together (Q); D: steps of X that X' has not; mu: how many of these there may be in a row. -/
structure SimT (n : Nat) (L : Nat → Nat) (X : Nat → Nat → Nat → Int) (L' : Nat → Nat) (X' : Nat → Nat → Nat → Int) (rg : Nat) (D : Nat → Nat → Bool) (mu : Nat → Nat → Nat) (Q : Nat → Nat → List Int → Nat → List Int → Prop) : Prop where
  z : ∀ t, t < n → Q t 0 (List.replicate rg 0) 0 (List.replicate rg 0)
  e : ∀ t rs i' rs', t < n → Q t (L t) rs i' rs' → i' = L' t
  lt : ∀ t i rs i' rs', t < n → Q t i rs i' rs' → i < L t → D t i = false → i' < L' t
  dr : ∀ t i rs i' rs', t < n → rs.length = rg → Q t i rs i' rs' → i < L t → D t i = true → abK (X t i 0) = 0 ∧ ∀ rd fr m, ∃ p r, effX (i + 1) rs rd fr m (X t i 0) (X t i 1) (X t i 2) (X t i 3) = some (p, r, .no) ∧ Q t p r i' rs' ∧ mu t p < mu t i
  ab : ∀ t i rs i' rs', t < n → Q t i rs i' rs' → i < L t → D t i = false → abK (X' t i' 0) = abK (X t i 0) ∧ (X t i 0 = 17 → X' t i' 1 = X t i 1)
  ef : ∀ t i rs i' rs', t < n → rs.length = rg → Q t i rs i' rs' → i < L t → D t i = false → ∀ rd fr m, EfR (Q t) (effX (i + 1) rs rd fr m (X t i 0) (X t i 1) (X t i 2) (X t i 3)) (effX (i' + 1) rs' rd fr m (X' t i' 0) (X' t i' 1) (X' t i' 2) (X' t i' 3))
/-- Two states that stand together. -/
structure RelS (n : Nat) (Q : Nat → Nat → List Int → Nat → List Int → Prop) (A S : Sx) : Prop where
  wo : S.words = A.words
  ow : S.own = A.own
  pr : S.prints = A.prints
  fe : S.fell = A.fell
  la : A.ths.length = n
  ls : S.ths.length = n
  wt : ∀ t, t < n → (thOf S t).wait = (thOf A t).wait
  q : ∀ t, t < n → Q t (thOf A t).pc (thOf A t).regs (thOf S t).pc (thOf S t).regs
section
variable {n m lk rg : Nat} {L L' : Nat → Nat} {X X' : Nat → Nat → Nat → Int} {mode : Int} {D : Nat → Nat → Bool} {mu : Nat → Nat → Nat} {Q : Nat → Nat → List Int → Nat → List Int → Prop} {A S : Sx}
theorem able_abK {s : Sx} {t : Nat} : ableT L X s t = (if endedT L s t then false else if abK (opT X s t 0) = 1 then decide ((thOf s t).wait.length < 3) else if abK (opT X s t 0) = 2 then decide ((thOf s t).wait.length = 0) else if abK (opT X s t 0) = 3 then decide ((thOf s t).wait.length = 0) && decide (s.own.getD (opT X s t 1).toNat 0 = -1) else true) := by
  unfold ableT abK
  cases endedT L s t with
  | true => rfl
  | false =>
    simp only [Bool.false_eq_true, ↓reduceIte]
    by_cases h1 : opT X s t 0 = 9 ∨ opT X s t 0 = 11 ∨ opT X s t 0 = 18
    · simp only [if_pos h1, ↓reduceIte]
    · simp only [if_neg h1]
      by_cases h2 : opT X s t 0 = 12 ∨ opT X s t 0 = 13
      · simp [if_pos h2]
      · simp only [if_neg h2]
        by_cases h3 : opT X s t 0 = 17
        · simp [if_pos h3]
        · simp [if_neg h3]
theorem RelS.ended (h : RelS n Q A S) (hR : SimT n L X L' X' rg D mu Q) (hok : SOk n L m lk rg mode A) {t : Nat} (ht : t < n) (hd : (thOf A t).pc < L t → D t (thOf A t).pc = false) : endedT L' S t = endedT L A t := by
  unfold endedT
  rcases Nat.lt_or_ge (thOf A t).pc (L t) with h1 | h1
  · have := hR.lt t _ _ _ _ ht (h.q t ht) h1 (hd h1)
    rw [decide_eq_false (by omega), decide_eq_false (by omega)]
  · have e2 : (thOf A t).pc = L t := by have := hok.pc t ht; omega
    have hq := h.q t ht
    rw [e2] at hq
    have := hR.e t _ _ _ ht hq
    rw [this, e2]
    simp
theorem RelS.able (h : RelS n Q A S) (hR : SimT n L X L' X' rg D mu Q) (hok : SOk n L m lk rg mode A) {t : Nat} (ht : t < n) (hd : (thOf A t).pc < L t → D t (thOf A t).pc = false) : ableT L' X' S t = ableT L X A t := by
  rw [able_abK, able_abK, h.ended hR hok ht hd, h.wt t ht, h.ow]
  cases e2 : endedT L A t with
  | true => rfl
  | false =>
    have h1 : (thOf A t).pc < L t := by
      unfold endedT at e2
      have := of_decide_eq_false e2
      omega
    obtain ⟨g1, g2⟩ := hR.ab t _ _ _ _ ht (h.q t ht) h1 (hd h1)
    have g3 : abK (opT X' S t 0) = abK (opT X A t 0) := g1
    rw [g3]
    by_cases h3 : abK (opT X A t 0) = 3
    · have h17 : X t (thOf A t).pc 0 = 17 := by
        have h4 : abK (X t (thOf A t).pc 0) = 3 := h3
        unfold abK at h4
        split at h4
        · omega
        · split at h4
          · omega
          · split at h4
            · assumption
            · omega
      have g4 : opT X' S t 1 = opT X A t 1 := g2 h17
      rw [g4]
    · simp only [if_neg h3]
theorem RelS.eff (h : RelS n Q A S) (hR : SimT n L X L' X' rg D mu Q) (hok : SOk n L m lk rg mode A) {t : Nat} (ht : t < n) (hl : (thOf A t).pc < L t) (hd : D t (thOf A t).pc = false) : EfR (Q t) (effT X A t) (effT X' S t) := by
  have e1 : findsW S t = findsW A t := by funext a; unfold findsW; rw [h.wt t ht, h.wo]
  have e2 : freesW S t = freesW A t := by funext a; unfold freesW; rw [h.wt t ht, h.ow]
  have := hR.ef t _ _ _ _ ht (hok.regs t ht) (h.q t ht) hl hd (findsW A t) (freesW A t) A.words.length
  unfold effT
  rw [e1, e2, h.wo]
  exact this
theorem RelS.setTh (h : RelS n Q A S) {t : Nat} (ht : t < n) {p p' : Nat} {r r' : List Int} {w w' : List Wt} (hw : w' = w) (hq : Q t p r p' r') : RelS n Q (setTh A t ⟨p, r, w⟩) (setTh S t ⟨p', r', w'⟩) := by
  have hA : t < A.ths.length := by rw [h.la]; exact ht
  have hS : t < S.ths.length := by rw [h.ls]; exact ht
  refine ⟨h.wo, h.ow, h.pr, h.fe, by simp [Go.Proofs.YtkailbdjilkneaaDoor.setTh, h.la], by simp [Go.Proofs.YtkailbdjilkneaaDoor.setTh, h.ls], fun u hu => ?_, fun u hu => ?_⟩
  · rw [thOf_set hA, thOf_set hS]
    by_cases e : u = t
    · rw [if_pos e, if_pos e]; exact hw
    · rw [if_neg e, if_neg e]; exact h.wt u hu
  · rw [thOf_set hA, thOf_set hS]
    by_cases e : u = t
    · rw [if_pos e, if_pos e, e]; exact hq
    · rw [if_neg e, if_neg e]; exact h.q u hu
theorem RelS.done (h : RelS n Q A S) (x : Wt) : RelS n Q (doneW A x) (doneW S x) := by
  unfold doneW
  split
  · exact ⟨h.wo, by show S.own.set _ _ = A.own.set _ _; rw [h.ow], h.pr, h.fe, h.la, h.ls, h.wt, h.q⟩
  · exact ⟨by show S.words.set _ _ = A.words.set _ _; rw [h.wo], h.ow, h.pr, h.fe, h.la, h.ls, h.wt, h.q⟩
theorem RelS.store (h : RelS n Q A S) {t : Nat} (ht : t < n) (x : Wt) : RelS n Q (storeW mode A t x) (storeW mode S t x) := by
  unfold storeW
  split
  · exact h.setTh ht (by rw [h.wt t ht]) (h.q t ht)
  · exact h.done x
theorem RelS.act (h : RelS n Q A S) {t : Nat} (ht : t < n) (k : Ak) : RelS n Q (actX mode A t k) (actX mode S t k) := by
  cases k with
  | no => exact h
  | put a v => exact h.store ht _
  | free a => exact h.store ht _
  | take a => exact ⟨h.wo, by show S.own.set _ _ = A.own.set _ _; rw [h.ow], h.pr, h.fe, h.la, h.ls, h.wt, h.q⟩
  | swap a v => exact ⟨by show S.words.set _ _ = A.words.set _ _; rw [h.wo], h.ow, h.pr, h.fe, h.la, h.ls, h.wt, h.q⟩
  | say v => exact ⟨h.wo, h.ow, by show S.prints ++ _ = A.prints ++ _; rw [h.pr], h.fe, h.la, h.ls, h.wt, h.q⟩
/-- A thread's step that the other program has not. -/
theorem RelS.gone (h : RelS n Q A S) (hR : SimT n L X L' X' rg D mu Q) (hok : SOk n L m lk rg mode A) {t : Nat} (ht : t < n) (hl : (thOf A t).pc < L t) (hd : D t (thOf A t).pc = true) : ableT L X A t = true ∧ ∃ p r, effT X A t = some (p, r, .no) ∧ RelS n Q (actX mode (Go.Proofs.YtkailbdjilkneaaDoor.setTh A t ⟨p, r, (thOf A t).wait⟩) t .no) S ∧ mu t p < mu t (thOf A t).pc := by
  obtain ⟨h0, h1⟩ := hR.dr t _ _ _ _ ht (hok.regs t ht) (h.q t ht) hl hd
  refine ⟨?_, ?_⟩
  · rw [able_abK]
    have h2 : abK (opT X A t 0) = 0 := h0
    rw [h2]
    have : endedT L A t = false := by
      unfold endedT
      exact decide_eq_false (by omega)
    rw [this]
    rfl
  · obtain ⟨p, r, h2, h3, h4⟩ := h1 (findsW A t) (freesW A t) A.words.length
    refine ⟨p, r, h2, ?_, h4⟩
    have hS : t < S.ths.length := by rw [h.ls]; exact ht
    have := h.setTh ht (w := (thOf A t).wait) (w' := (thOf S t).wait) (h.wt t ht) h3
    have e : Go.Proofs.YtkailbdjilkneaaDoor.setTh S t ⟨(thOf S t).pc, (thOf S t).regs, (thOf S t).wait⟩ = S := set_th hS
    rw [e] at this
    exact this
/-- A thread goes past all steps that the other program has not. -/
theorem RelS.past (hR : SimT n L X L' X' rg D mu Q) (hc : COk n L X m lk rg) (hm : 0 ≤ mode) {s0 : Sx} (hs : SOk n L m lk rg mode s0) (hf : s0.fell = false) {t : Nat} (ht : t < n) : ∀ (f : Nat) (A : Sx), mu t (thOf A t).pc ≤ f → Rch (nxX L X mode) s0 A → RelS n Q A S → ∃ B, Rch (nxX L X mode) s0 B ∧ RelS n Q B S ∧ (∀ u, u ≠ t → thOf B u = thOf A u) ∧ ((thOf B t).pc < L t → D t (thOf B t).pc = false)
  | f, A, hfu, hA, h => by
    by_cases hgo : (thOf A t).pc < L t ∧ D t (thOf A t).pc = true
    · obtain ⟨hok, hAf⟩ := reach_ok hs hf hc hm hA
      have htA : t < A.ths.length := by rw [h.la]; exact ht
      obtain ⟨g1, p, r, g2, g3, g4⟩ := h.gone hR hok ht hgo.1 hgo.2
      have hr := rch_eff hA hAf htA g1 g2
      match f, hfu with
      | 0, hfu => omega
      | f + 1, hfu =>
        have hpc : (thOf (actX mode (Go.Proofs.YtkailbdjilkneaaDoor.setTh A t ⟨p, r, (thOf A t).wait⟩) t .no) t).pc = p := by
          show (thOf (Go.Proofs.YtkailbdjilkneaaDoor.setTh A t _) t).pc = p
          rw [th_set htA]
        obtain ⟨B, b1, b2, b3, b4⟩ := RelS.past hR hc hm hs hf ht f _ (by rw [hpc]; omega) hr g3
        exact ⟨B, b1, b2, fun u hu => (b3 u hu).trans (by show thOf (Go.Proofs.YtkailbdjilkneaaDoor.setTh A t _) u = _; rw [thOf_set htA, if_neg hu]), b4⟩
    · refine ⟨A, hA, h, fun _ _ => rfl, fun hl => ?_⟩
      cases e : D t (thOf A t).pc with
      | false => rfl
      | true => exact absurd ⟨hl, e⟩ hgo
theorem RelS.all (hR : SimT n L X L' X' rg D mu Q) (hc : COk n L X m lk rg) (hm : 0 ≤ mode) {s0 : Sx} (hs : SOk n L m lk rg mode s0) (hf : s0.fell = false) (hA : Rch (nxX L X mode) s0 A) (h : RelS n Q A S) : ∀ k, k ≤ n → ∃ B, Rch (nxX L X mode) s0 B ∧ RelS n Q B S ∧ ∀ t, t < k → (thOf B t).pc < L t → D t (thOf B t).pc = false
  | 0, _ => ⟨A, hA, h, fun _ ht => absurd ht (by omega)⟩
  | k + 1, hk => by
    obtain ⟨B1, h1, h2, h3⟩ := RelS.all hR hc hm hs hf hA h k (by omega)
    obtain ⟨B, g1, g2, g3, g4⟩ := RelS.past hR hc hm hs hf (t := k) (by omega) _ B1 (Nat.le_refl _) h1 h2
    refine ⟨B, g1, g2, fun t ht => ?_⟩
    by_cases e : t = k
    · rw [e]; exact g4
    · rw [g3 t e]
      exact h3 t (by omega)
theorem RelS.begin (hR : SimT n L X L' X' rg D mu Q) {s0 : Sx} (hs : SOk n L m lk rg mode s0) (hb : ∀ t, t < n → thOf s0 t = ⟨0, List.replicate rg 0, []⟩) : RelS n Q s0 s0 :=
  ⟨rfl, rfl, rfl, rfl, hs.ths, hs.ths, fun _ _ => rfl, fun t ht => by rw [hb t ht]; exact hR.z t ht⟩
/-- Each state of the program has one of the other that stands with it. -/
theorem sim_fwd (hR : SimT n L X L' X' rg D mu Q) (hc : COk n L X m lk rg) (hm : 0 ≤ mode) {s0 : Sx} (hs : SOk n L m lk rg mode s0) (hf : s0.fell = false) (hb : ∀ t, t < n → thOf s0 t = ⟨0, List.replicate rg 0, []⟩) (hA : Rch (nxX L X mode) s0 A) : ∃ S, Rch (nxX L' X' mode) s0 S ∧ RelS n Q A S := by
  induction hA with
  | base => exact ⟨s0, .base, RelS.begin hR hs hb⟩
  | @step A A' hA hnx ih =>
    obtain ⟨S, hS, h⟩ := ih
    obtain ⟨hok, hAf⟩ := reach_ok hs hf hc hm hA
    have hSf : S.fell = false := by rw [h.fe]; exact hAf
    rcases nx_cases hAf (fun t ht => hok.wlen t (by rw [← hok.ths]; exact ht)) hnx with ⟨t, p, rs, k, ht, ha, he, rfl⟩ | ⟨t, k, ht, hk, hmay, rfl⟩
    · have htn : t < n := by rw [← hok.ths]; exact ht
      have htS : t < S.ths.length := by rw [h.ls]; exact htn
      have hl := able_lt ha
      cases hd : D t (thOf A t).pc with
      | true =>
        obtain ⟨_, p2, r2, g2, g3, _⟩ := h.gone hR hok htn hl hd
        rw [he] at g2
        simp only [Option.some.injEq, Prod.mk.injEq] at g2
        obtain ⟨rfl, rfl, rfl⟩ := g2
        exact ⟨S, hS, g3⟩
      | false =>
        have hef := h.eff hR hok htn hl hd
        rw [he] at hef
        cases e2 : effT X' S t with
        | none => rw [e2] at hef; exact absurd hef id
        | some q =>
          obtain ⟨p', r', k'⟩ := q
          rw [e2] at hef
          obtain ⟨rfl, hq⟩ := hef
          exact ⟨_, rch_eff hS hSf htS ((h.able hR hok htn (fun _ => hd)).trans ha) e2, (h.setTh htn (h.wt t htn) hq).act htn _⟩
    · have htn : t < n := by rw [← hok.ths]; exact ht
      have htS : t < S.ths.length := by rw [h.ls]; exact htn
      have e := h.wt t htn
      refine ⟨_, rch_finK hS hSf htS (k := k) (by rw [e]; exact hk) (by rw [e]; exact hok.wlen t htn) (by rw [e]; exact hmay), ?_⟩
      have h1 := h.done ((thOf A t).wait.getD k default)
      rw [e]
      exact h1.setTh htn rfl (h.q t htn)
/-- Each state of the other program has one of it. -/
theorem sim_bwd (hR : SimT n L X L' X' rg D mu Q) (hc : COk n L X m lk rg) (hm : 0 ≤ mode) {s0 : Sx} (hs : SOk n L m lk rg mode s0) (hf : s0.fell = false) (hb : ∀ t, t < n → thOf s0 t = ⟨0, List.replicate rg 0, []⟩) (hS : Rch (nxX L' X' mode) s0 S) : ∃ A, Rch (nxX L X mode) s0 A ∧ RelS n Q A S := by
  induction hS with
  | base => exact ⟨s0, .base, RelS.begin hR hs hb⟩
  | @step S S' hS hnx ih =>
    obtain ⟨A, hA, h⟩ := ih
    obtain ⟨hok, hAf⟩ := reach_ok hs hf hc hm hA
    have hSf : S.fell = false := by rw [h.fe]; exact hAf
    have hwl : ∀ t, t < S.ths.length → (thOf S t).wait.length ≤ 3 := fun t ht => by
      rw [h.ls] at ht
      rw [h.wt t ht]
      exact hok.wlen t ht
    rcases nx_cases hSf hwl hnx with ⟨t, p, rs, k, ht, ha, he, rfl⟩ | ⟨t, k, ht, hk, hmay, rfl⟩
    · have htn : t < n := by rw [← h.ls]; exact ht
      obtain ⟨B, hB, hBS, _, hBd⟩ := RelS.past hR hc hm hs hf htn _ A (Nat.le_refl _) hA h
      obtain ⟨hokB, hBf⟩ := reach_ok hs hf hc hm hB
      have htB : t < B.ths.length := by rw [hBS.la]; exact htn
      rw [hBS.able hR hokB htn hBd] at ha
      have hl := able_lt ha
      have hef := hBS.eff hR hokB htn hl (hBd hl)
      rw [he] at hef
      cases e2 : effT X B t with
      | none => rw [e2] at hef; exact absurd hef id
      | some q =>
        obtain ⟨p', r', k'⟩ := q
        rw [e2] at hef
        obtain ⟨rfl, hq⟩ := hef
        exact ⟨_, rch_eff hB hBf htB ha e2, (hBS.setTh htn (hBS.wt t htn) hq).act htn _⟩
    · have htn : t < n := by rw [← h.ls]; exact ht
      have htA : t < A.ths.length := by rw [h.la]; exact htn
      have e := h.wt t htn
      rw [e] at hk hmay
      refine ⟨_, rch_finK hA hAf htA (k := k) hk (hok.wlen t htn) hmay, ?_⟩
      have h1 := h.done ((thOf A t).wait.getD k default)
      rw [e]
      exact h1.setTh htn rfl (h.q t htn)
/-- Of two states that stand together and go no silent step: what they come to is the same. -/
theorem RelS.outs (h : RelS n Q A S) (hR : SimT n L X L' X' rg D mu Q) (hok : SOk n L m lk rg mode A) (hAf : A.fell = false) (hd : ∀ t, t < n → (thOf A t).pc < L t → D t (thOf A t).pc = false) {o : Oc} : o ∈ outsX L X mode A ↔ o ∈ outsX L' X' mode S := by
  have hSf : S.fell = false := by rw [h.fe]; exact hAf
  have hwl : ∀ t, t < S.ths.length → (thOf S t).wait.length ≤ 3 := fun t ht => by
    rw [h.ls] at ht
    rw [h.wt t ht]
    exact hok.wlen t ht
  have hend : endedX L' S = endedX L A := ended_eq (h.ls.trans h.la.symm) (fun t ht => ⟨h.ended hR hok (by rw [← h.la]; exact ht) (hd t (by rw [← h.la]; exact ht)), h.wt t (by rw [← h.la]; exact ht)⟩)
  have hmv : movesX L X mode A = [] ↔ movesX L' X' mode S = [] := by
    rw [moves_nil, moves_nil, h.la, h.ls]
    constructor
    · intro g t ht
      rw [h.able hR hok ht (hd t ht), h.wt t ht]
      exact g t ht
    · intro g t ht
      have := g t ht
      rw [h.able hR hok ht (hd t ht), h.wt t ht] at this
      exact this
  constructor
  · intro ho
    rcases outs_cases hAf (fun t ht => hok.wlen t (by rw [← hok.ths]; exact ht)) ho with ⟨g1, rfl⟩ | ⟨t, ht, ha, he, rfl⟩
    · have := outs_end (hmv.1 g1)
      rw [hend, h.wo, h.pr] at this
      exact this
    · have htn : t < n := by rw [← h.la]; exact ht
      have hl := able_lt ha
      have hef := h.eff hR hok htn hl (hd t htn hl)
      rw [he] at hef
      have e2 : effT X' S t = none := by
        cases e2 : effT X' S t with
        | none => rfl
        | some q => rw [e2] at hef; exact absurd hef id
      have := outs_fall (mode := mode) (s := S) (by rw [h.ls]; exact htn) ((h.able hR hok htn (hd t htn)).trans ha) e2
      rw [h.pr] at this
      exact this
  · intro ho
    rcases outs_cases hSf hwl ho with ⟨g1, rfl⟩ | ⟨t, ht, ha, he, rfl⟩
    · have := outs_end (hmv.2 g1)
      rw [← hend, ← h.wo, ← h.pr] at this
      exact this
    · have htn : t < n := by rw [← h.ls]; exact ht
      rw [h.able hR hok htn (hd t htn)] at ha
      have hl := able_lt ha
      have hef := h.eff hR hok htn hl (hd t htn hl)
      rw [he] at hef
      have e2 : effT X A t = none := by
        cases e2 : effT X A t with
        | none => rfl
        | some q => rw [e2] at hef; exact absurd hef id
      have := outs_fall (mode := mode) (s := A) (by rw [h.la]; exact htn) ha e2
      rw [← h.pr] at this
      exact this
/-- What comes of the program comes of the other one. -/
theorem sim_out (hR : SimT n L X L' X' rg D mu Q) (hc : COk n L X m lk rg) (hm : 0 ≤ mode) {s0 : Sx} (hs : SOk n L m lk rg mode s0) (hf : s0.fell = false) (hb : ∀ t, t < n → thOf s0 t = ⟨0, List.replicate rg 0, []⟩) (hA : Rch (nxX L X mode) s0 A) {o : Oc} (ho : o ∈ outsX L X mode A) : ∃ S, Rch (nxX L' X' mode) s0 S ∧ o ∈ outsX L' X' mode S := by
  obtain ⟨S, hS, h⟩ := sim_fwd hR hc hm hs hf hb hA
  obtain ⟨hok, hAf⟩ := reach_ok hs hf hc hm hA
  refine ⟨S, hS, ?_⟩
  have hSf : S.fell = false := by rw [h.fe]; exact hAf
  rcases outs_cases hAf (fun t ht => hok.wlen t (by rw [← hok.ths]; exact ht)) ho with ⟨g1, rfl⟩ | ⟨t, ht, ha, he, rfl⟩
  · refine (h.outs hR hok hAf (fun t ht hl => ?_)).1 ho
    cases e : D t (thOf A t).pc with
    | false => rfl
    | true =>
      have := (h.gone hR hok ht hl e).1
      rw [moves_nil] at g1
      rw [(g1 t (by rw [h.la]; exact ht)).1] at this
      cases this
  · have htn : t < n := by rw [← h.la]; exact ht
    have hl := able_lt ha
    have hd : D t (thOf A t).pc = false := by
      cases e : D t (thOf A t).pc with
      | false => rfl
      | true =>
        obtain ⟨_, p, r, g2, _⟩ := h.gone hR hok htn hl e
        rw [he] at g2
        cases g2
    have hef := h.eff hR hok htn hl hd
    rw [he] at hef
    have e2 : effT X' S t = none := by
      cases e2 : effT X' S t with
      | none => rfl
      | some q => rw [e2] at hef; exact absurd hef id
    have := outs_fall (mode := mode) (s := S) (by rw [h.ls]; exact htn) ((h.able hR hok htn (fun _ => hd)).trans ha) e2
    rw [h.pr] at this
    exact this
/-- What comes of the other program comes of it. -/
theorem sim_back (hR : SimT n L X L' X' rg D mu Q) (hc : COk n L X m lk rg) (hm : 0 ≤ mode) {s0 : Sx} (hs : SOk n L m lk rg mode s0) (hf : s0.fell = false) (hb : ∀ t, t < n → thOf s0 t = ⟨0, List.replicate rg 0, []⟩) (hS : Rch (nxX L' X' mode) s0 S) {o : Oc} (ho : o ∈ outsX L' X' mode S) : ∃ A, Rch (nxX L X mode) s0 A ∧ o ∈ outsX L X mode A := by
  obtain ⟨A0, hA0, h0⟩ := sim_bwd hR hc hm hs hf hb hS
  obtain ⟨A, hA, h, hd⟩ := RelS.all hR hc hm hs hf hA0 h0 n (Nat.le_refl _)
  obtain ⟨hok, hAf⟩ := reach_ok hs hf hc hm hA
  exact ⟨A, hA, (h.outs hR hok hAf hd).2 ho⟩
end

end Go.Proofs.YtkailbdjilkneaaDoor
