/-
  A program that keeps some registers in words of its own does what the other one does: their runs come to the same, but for these words. Plain functions, the machine without stores that wait.
-/
import Derived.Test.YtocfocjnnjdcgaaDoorEffP
namespace Go.Proofs.YtocfocjnnjdcgaaDoor
open Go.RowKit

/-- Within the first m words. -/
def akB (m : Nat) : Ak → Prop
  | .put a _ => 0 ≤ a ∧ a < m
  | .swap a _ => 0 ≤ a ∧ a < m
  | _ => True
/-- What two orders make of their threads goes together, and touches the first m words alone. -/
def EfA (m : Nat) (Q : Nat → List Int → Nat → List Int → Prop) : Option (Nat × List Int × Ak) → Option (Nat × List Int × Ak) → Prop
  | none, none => True
  | some (p, r, k), some (p', r', k') => k' = k ∧ akB m k ∧ Q p r p' r'
  | _, _ => False
/-- Orders that reckon the number of a word. -/
def rkO (op : Int) : Prop := op = 10 ∨ op = 11
/-- Threads of one program (X, of m words) and of another one (X', of the first m' of these words) that stand together (Q); pv: the words that are a thread's own; D: steps of X that X' has not; mu: how many of these there may be in a row. -/
structure SimA (n m m' : Nat) (L : Nat → Nat) (X : Nat → Nat → Nat → Int) (rg : Nat) (L' : Nat → Nat) (X' : Nat → Nat → Nat → Int) (rg' : Nat) (pv : Nat → Nat → Prop) (D : Nat → Nat → Bool) (mu : Nat → Nat → Nat) (Q : Nat → Nat → List Int → List Int → Nat → List Int → Prop) : Prop where
  own : ∀ t u a, t < n → u < n → pv t a → pv u a → t = u
  far : ∀ t a, t < n → pv t a → m' ≤ a ∧ a < m
  z : ∀ t ws, t < n → (∀ a, m' ≤ a → ws.getD a 0 = 0) → Q t 0 (List.replicate rg 0) ws 0 (List.replicate rg' 0)
  st : ∀ t i rs ws ws' i' rs', t < n → Q t i rs ws i' rs' → (∀ a, pv t a → ws'.getD a 0 = ws.getD a 0) → Q t i rs ws' i' rs'
  e : ∀ t rs ws i' rs', t < n → Q t (L t) rs ws i' rs' → i' = L' t
  lt : ∀ t i rs ws i' rs', t < n → Q t i rs ws i' rs' → i < L t → D t i = false → i' < L' t
  dr : ∀ t i rs ws i' rs', t < n → rs.length = rg → ws.length = m → Q t i rs ws i' rs' → i < L t → D t i = true → abK (X t i 0) ≤ 1 ∧ ∃ p r k, (∀ fr, effX (i + 1) rs (fun a => ws.getD a.toNat 0) fr m (X t i 0) (X t i 1) (X t i 2) (X t i 3) = some (p, r, k)) ∧ ((k = .no ∧ Q t p r ws i' rs') ∨ ∃ (a : Nat) (v : Int), k = .put a v ∧ pv t a ∧ Q t p r (ws.set a v) i' rs') ∧ mu t p < mu t i
  ab : ∀ t i rs ws i' rs', t < n → Q t i rs ws i' rs' → i < L t → D t i = false → abK (X t i 0) = abK (X' t i' 0) ∧ (X' t i' 0 = 17 → X t i 1 = X' t i' 1)
  ef : ∀ t i rs ws i' rs', t < n → rs.length = rg → rs'.length = rg' → ws.length = m → Q t i rs ws i' rs' → i < L t → D t i = false → ∀ fr, (rkO (X' t i' 0) → effX (i' + 1) rs' (fun a => (ws.take m').getD a.toNat 0) fr m' (X' t i' 0) (X' t i' 1) (X' t i' 2) (X' t i' 3) ≠ none) → EfA m' (fun p r p' r' => Q t p r ws p' r') (effX (i + 1) rs (fun a => ws.getD a.toNat 0) fr m (X t i 0) (X t i 1) (X t i 2) (X t i 3)) (effX (i' + 1) rs' (fun a => (ws.take m').getD a.toNat 0) fr m' (X' t i' 0) (X' t i' 1) (X' t i' 2) (X' t i' 3))
/-- Two states that stand together. -/
structure RelA (n m' : Nat) (Q : Nat → Nat → List Int → List Int → Nat → List Int → Prop) (A S : Sx) : Prop where
  wo : S.words = A.words.take m'
  ow : S.own = A.own
  pr : S.prints = A.prints
  fe : S.fell = A.fell
  la : A.ths.length = n
  ls : S.ths.length = n
  wa : ∀ t, t < n → (thOf A t).wait = []
  ws : ∀ t, t < n → (thOf S t).wait = []
  q : ∀ t, t < n → Q t (thOf A t).pc (thOf A t).regs A.words (thOf S t).pc (thOf S t).regs

theorem findsW_fun {s : Sx} {t : Nat} (h : (thOf s t).wait = []) : findsW s t = fun a => s.words.getD a.toNat 0 := funext fun a => findsW_bare h a
theorem take_set_lt {l : List Int} {m a : Nat} (v : Int) (_h : a < m) : (l.set a v).take m = (l.take m).set a v := by rw [List.take_set]
theorem take_set_ge {l : List Int} {m a : Nat} (v : Int) (h : m ≤ a) : (l.set a v).take m = l.take m := by
  rw [List.take_set, List.set_eq_of_length_le]
  rw [List.length_take]; omega
theorem getD_set_ne {l : List Int} {a b : Nat} (v : Int) (h : b ≠ a) : (l.set a v).getD b 0 = l.getD b 0 := by
  rw [List.getD_eq_getElem?_getD, List.getD_eq_getElem?_getD, List.getElem?_set_ne (fun x => h x.symm)]
section
variable {n m m' lk rg rg' : Nat} {L L' : Nat → Nat} {X X' : Nat → Nat → Nat → Int} {pv : Nat → Nat → Prop} {D : Nat → Nat → Bool} {mu : Nat → Nat → Nat} {Q : Nat → Nat → List Int → List Int → Nat → List Int → Prop} {A S : Sx}
theorem RelA.ended (h : RelA n m' Q A S) (hR : SimA n m m' L X rg L' X' rg' pv D mu Q) (hok : SOk n L m lk rg 0 A) {t : Nat} (ht : t < n) (hd : (thOf A t).pc < L t → D t (thOf A t).pc = false) : endedT L' S t = endedT L A t := by
  unfold endedT
  rcases Nat.lt_or_ge (thOf A t).pc (L t) with h1 | h1
  · have := hR.lt t _ _ _ _ _ ht (h.q t ht) h1 (hd h1)
    rw [decide_eq_false (by omega), decide_eq_false (by omega)]
  · have e2 : (thOf A t).pc = L t := by have := hok.pc t ht; omega
    have hq := h.q t ht
    rw [e2] at hq
    have := hR.e t _ _ _ _ ht hq
    rw [this, e2]
    simp
theorem RelA.able (h : RelA n m' Q A S) (hR : SimA n m m' L X rg L' X' rg' pv D mu Q) (hok : SOk n L m lk rg 0 A) {t : Nat} (ht : t < n) (hd : (thOf A t).pc < L t → D t (thOf A t).pc = false) : ableT L' X' S t = ableT L X A t := by
  rw [able_abK, able_abK, h.ended hR hok ht hd, h.wa t ht, h.ws t ht, h.ow]
  cases e2 : endedT L A t with
  | true => rfl
  | false =>
    have h1 : (thOf A t).pc < L t := by
      unfold endedT at e2
      have := of_decide_eq_false e2
      omega
    obtain ⟨g1, g2⟩ := hR.ab t _ _ _ _ _ ht (h.q t ht) h1 (hd h1)
    have g3 : abK (opT X A t 0) = abK (opT X' S t 0) := g1
    rw [g3]
    by_cases h3 : abK (opT X' S t 0) = 3
    · have h17 : X' t (thOf S t).pc 0 = 17 := by
        have h4 : abK (X' t (thOf S t).pc 0) = 3 := h3
        unfold abK at h4
        split at h4
        · omega
        · split at h4
          · omega
          · split at h4
            · assumption
            · omega
      have g4 : opT X A t 1 = opT X' S t 1 := g2 h17
      rw [g4]
    · simp only [if_neg h3]
theorem RelA.eff (h : RelA n m' Q A S) (hR : SimA n m m' L X rg L' X' rg' pv D mu Q) (hok : SOk n L m lk rg 0 A) (hoS : SOk n L' m' lk rg' 0 S) {t : Nat} (ht : t < n) (hl : (thOf A t).pc < L t) (hd : D t (thOf A t).pc = false) (hnf : rkO (opT X' S t 0) → effT X' S t ≠ none) : EfA m' (fun p r p' r' => Q t p r A.words p' r') (effT X A t) (effT X' S t) := by
  have e2 : freesW S t = freesW A t := by funext a; unfold freesW; rw [h.wa t ht, h.ws t ht, h.ow]
  have e3 : findsW S t = fun a => (A.words.take m').getD a.toNat 0 := by rw [findsW_fun (h.ws t ht), h.wo]
  have e4 : findsW A t = fun a => A.words.getD a.toNat 0 := findsW_fun (h.wa t ht)
  have := hR.ef t _ _ _ _ _ ht (hok.regs t ht) (hoS.regs t ht) hok.words (h.q t ht) hl hd (freesW A t)
  unfold effT at hnf ⊢
  rw [e3, e2, hoS.words] at hnf
  rw [e4, e3, e2, hoS.words, hok.words]
  exact this hnf
theorem RelA.setTh (h : RelA n m' Q A S) {t : Nat} (ht : t < n) {p p' : Nat} {r r' : List Int} (hq : Q t p r A.words p' r') : RelA n m' Q (setTh A t ⟨p, r, []⟩) (setTh S t ⟨p', r', []⟩) := by
  have hA : t < A.ths.length := by rw [h.la]; exact ht
  have hS : t < S.ths.length := by rw [h.ls]; exact ht
  refine ⟨h.wo, h.ow, h.pr, h.fe, by simp [Go.Proofs.YtocfocjnnjdcgaaDoor.setTh, h.la], by simp [Go.Proofs.YtocfocjnnjdcgaaDoor.setTh, h.ls], fun u hu => ?_, fun u hu => ?_, fun u hu => ?_⟩
  · rw [thOf_set hA]
    by_cases e : u = t
    · rw [if_pos e]
    · rw [if_neg e]; exact h.wa u hu
  · rw [thOf_set hS]
    by_cases e : u = t
    · rw [if_pos e]
    · rw [if_neg e]; exact h.ws u hu
  · rw [thOf_set hA, thOf_set hS]
    by_cases e : u = t
    · rw [if_pos e, if_pos e, e]; exact hq
    · rw [if_neg e, if_neg e]; exact h.q u hu
/-- A word of both is set. -/
theorem RelA.word (h : RelA n m' Q A S) (hR : SimA n m m' L X rg L' X' rg' pv D mu Q) {a : Int} (h0 : 0 ≤ a) (hm : a < m') (v : Int) : RelA n m' Q { A with words := A.words.set a.toNat v } { S with words := S.words.set a.toNat v } := by
  refine ⟨?_, h.ow, h.pr, h.fe, h.la, h.ls, h.wa, h.ws, fun t ht => ?_⟩
  · show S.words.set _ _ = (A.words.set _ _).take m'
    rw [take_set_lt v (by omega), h.wo]
  · exact hR.st t _ _ _ _ _ _ ht (h.q t ht) fun b hb => getD_set_ne v (by have := (hR.far t b ht hb).1; omega)
theorem RelA.act (h : RelA n m' Q A S) (hR : SimA n m m' L X rg L' X' rg' pv D mu Q) {t : Nat} {k : Ak} (hk : akB m' k) : RelA n m' Q (actX 0 A t k) (actX 0 S t k) := by
  cases k with
  | no => exact h
  | put a v => exact h.word hR hk.1 hk.2 v
  | free a => exact ⟨h.wo, by show S.own.set _ _ = A.own.set _ _; rw [h.ow], h.pr, h.fe, h.la, h.ls, h.wa, h.ws, h.q⟩
  | take a => exact ⟨h.wo, by show S.own.set _ _ = A.own.set _ _; rw [h.ow], h.pr, h.fe, h.la, h.ls, h.wa, h.ws, h.q⟩
  | swap a v => exact h.word hR hk.1 hk.2 v
  | say v => exact ⟨h.wo, h.ow, by show S.prints ++ _ = A.prints ++ _; rw [h.pr], h.fe, h.la, h.ls, h.wa, h.ws, h.q⟩
/-- A thread's step that the other program has not. -/
theorem RelA.gone (h : RelA n m' Q A S) (hR : SimA n m m' L X rg L' X' rg' pv D mu Q) (hok : SOk n L m lk rg 0 A) {t : Nat} (ht : t < n) (hl : (thOf A t).pc < L t) (hd : D t (thOf A t).pc = true) : ableT L X A t = true ∧ ∃ p r k, effT X A t = some (p, r, k) ∧ RelA n m' Q (actX 0 (Go.Proofs.YtocfocjnnjdcgaaDoor.setTh A t ⟨p, r, []⟩) t k) S ∧ mu t p < mu t (thOf A t).pc ∧ (thOf (actX 0 (Go.Proofs.YtocfocjnnjdcgaaDoor.setTh A t ⟨p, r, []⟩) t k) t).pc = p ∧ ∀ u, u ≠ t → thOf (actX 0 (Go.Proofs.YtocfocjnnjdcgaaDoor.setTh A t ⟨p, r, []⟩) t k) u = thOf A u := by
  obtain ⟨h0, p, r, k, h1, h2, h3⟩ := hR.dr t _ _ _ _ _ ht (hok.regs t ht) hok.words (h.q t ht) hl hd
  have hA : t < A.ths.length := by rw [h.la]; exact ht
  have hS : t < S.ths.length := by rw [h.ls]; exact ht
  refine ⟨?_, p, r, k, ?_, ?_, h3, ?_⟩
  · rw [able_abK]
    have h2 : abK (opT X A t 0) ≤ 1 := h0
    have : endedT L A t = false := by
      unfold endedT
      exact decide_eq_false (by omega)
    rw [this, h.wa t ht]
    rcases (by omega : abK (opT X A t 0) = 0 ∨ abK (opT X A t 0) = 1) with e | e <;> rw [e] <;> rfl
  · unfold effT
    rw [findsW_fun (h.wa t ht), hok.words]
    exact h1 _
  · have e : Go.Proofs.YtocfocjnnjdcgaaDoor.setTh S t ⟨(thOf S t).pc, (thOf S t).regs, []⟩ = S := by rw [← h.ws t ht]; exact set_th hS
    rcases h2 with ⟨rfl, h2⟩ | ⟨a, v, rfl, h4, h2⟩
    · have := h.setTh ht h2
      rw [e] at this
      exact this
    · have hfar := hR.far t a ht h4
      refine ⟨?_, h.ow, h.pr, h.fe, by simp [Go.Proofs.YtocfocjnnjdcgaaDoor.setTh, actX, storeW, doneW, h.la], h.ls, fun u hu => ?_, h.ws, fun u hu => ?_⟩
      · show S.words = (A.words.set (a : Int).toNat v).take m'
        rw [take_set_ge v (by omega), h.wo]
      · show (thOf (Go.Proofs.YtocfocjnnjdcgaaDoor.setTh A t _) u).wait = []
        rw [thOf_set hA]
        by_cases e : u = t
        · rw [if_pos e]
        · rw [if_neg e]; exact h.wa u hu
      · show Q u (thOf (Go.Proofs.YtocfocjnnjdcgaaDoor.setTh A t _) u).pc (thOf (Go.Proofs.YtocfocjnnjdcgaaDoor.setTh A t _) u).regs (A.words.set (a : Int).toNat v) _ _
        rw [thOf_set hA]
        by_cases e : u = t
        · subst e
          rw [if_pos rfl]
          simpa using h2
        · rw [if_neg e]
          exact hR.st u _ _ _ _ _ _ hu (h.q u hu) fun b hb => getD_set_ne v (fun eb => e (hR.own u t b hu ht hb (by rw [show b = a by omega]; exact h4)))
  · rcases h2 with ⟨rfl, h2⟩ | ⟨a, v, rfl, h4, h2⟩
    · exact ⟨by show (thOf (Go.Proofs.YtocfocjnnjdcgaaDoor.setTh A t _) t).pc = p; rw [th_set hA], fun u hu => by show thOf (Go.Proofs.YtocfocjnnjdcgaaDoor.setTh A t _) u = _; rw [thOf_set hA, if_neg hu]⟩
    · exact ⟨by show (thOf (Go.Proofs.YtocfocjnnjdcgaaDoor.setTh A t _) t).pc = p; rw [th_set hA], fun u hu => by show thOf (Go.Proofs.YtocfocjnnjdcgaaDoor.setTh A t _) u = _; rw [thOf_set hA, if_neg hu]⟩
/-- A thread goes past all steps that the other program has not. -/
theorem RelA.past (hR : SimA n m m' L X rg L' X' rg' pv D mu Q) (hc : COk n L X m lk rg) {s0 : Sx} (hs : SOk n L m lk rg 0 s0) (hf : s0.fell = false) {t : Nat} (ht : t < n) : ∀ (f : Nat) (A : Sx), mu t (thOf A t).pc ≤ f → Rch (nxX L X 0) s0 A → RelA n m' Q A S → ∃ B, Rch (nxX L X 0) s0 B ∧ RelA n m' Q B S ∧ (∀ u, u ≠ t → thOf B u = thOf A u) ∧ ((thOf B t).pc < L t → D t (thOf B t).pc = false)
  | f, A, hfu, hA, h => by
    by_cases hgo : (thOf A t).pc < L t ∧ D t (thOf A t).pc = true
    · obtain ⟨hok, hAf⟩ := reach_ok hs hf hc (Int.le_refl _) hA
      have htA : t < A.ths.length := by rw [h.la]; exact ht
      obtain ⟨g1, p, r, k, g2, g3, g4, g5, g6⟩ := h.gone hR hok ht hgo.1 hgo.2
      have hr := rch_eff hA hAf htA g1 g2
      rw [h.wa t ht] at hr
      match f, hfu with
      | 0, hfu => omega
      | f + 1, hfu =>
        obtain ⟨B, b1, b2, b3, b4⟩ := RelA.past hR hc hs hf ht f _ (by rw [g5]; omega) hr g3
        exact ⟨B, b1, b2, fun u hu => (b3 u hu).trans (g6 u hu), b4⟩
    · refine ⟨A, hA, h, fun _ _ => rfl, fun hl => ?_⟩
      cases e : D t (thOf A t).pc with
      | false => rfl
      | true => exact absurd ⟨hl, e⟩ hgo
theorem RelA.all (hR : SimA n m m' L X rg L' X' rg' pv D mu Q) (hc : COk n L X m lk rg) {s0 : Sx} (hs : SOk n L m lk rg 0 s0) (hf : s0.fell = false) (hA : Rch (nxX L X 0) s0 A) (h : RelA n m' Q A S) : ∀ k, k ≤ n → ∃ B, Rch (nxX L X 0) s0 B ∧ RelA n m' Q B S ∧ ∀ t, t < k → (thOf B t).pc < L t → D t (thOf B t).pc = false
  | 0, _ => ⟨A, hA, h, fun _ ht => absurd ht (by omega)⟩
  | k + 1, hk => by
    obtain ⟨B1, h1, h2, h3⟩ := RelA.all hR hc hs hf hA h k (by omega)
    obtain ⟨B, g1, g2, g3, g4⟩ := RelA.past hR hc hs hf (t := k) (by omega) _ B1 (Nat.le_refl _) h1 h2
    refine ⟨B, g1, g2, fun t ht => ?_⟩
    by_cases e : t = k
    · rw [e]; exact g4
    · rw [g3 t e]
      exact h3 t (by omega)
theorem RelA.begin (hR : SimA n m m' L X rg L' X' rg' pv D mu Q) {s0 s0' : Sx} (hs : SOk n L m lk rg 0 s0) (hs' : SOk n L' m' lk rg' 0 s0') (hwo : s0'.words = s0.words.take m') (hze : ∀ a, m' ≤ a → s0.words.getD a 0 = 0) (how : s0'.own = s0.own) (hpr : s0'.prints = s0.prints) (hfe : s0'.fell = s0.fell) (hb : ∀ t, t < n → thOf s0 t = ⟨0, List.replicate rg 0, []⟩) (hb' : ∀ t, t < n → thOf s0' t = ⟨0, List.replicate rg' 0, []⟩) : RelA n m' Q s0 s0' :=
  ⟨hwo, how, hpr, hfe, hs.ths, hs'.ths, fun t ht => by rw [hb t ht], fun t ht => by rw [hb' t ht], fun t ht => by rw [hb t ht, hb' t ht]; exact hR.z t _ ht hze⟩
/-- Nothing that reckons a word's number falls. -/
def NoF (L' : Nat → Nat) (X' : Nat → Nat → Nat → Int) (s0' : Sx) : Prop := ∀ S, Rch (nxX L' X' 0) s0' S → ∀ t, t < S.ths.length → ableT L' X' S t = true → rkO (opT X' S t 0) → effT X' S t ≠ none
/-- Each state of the program that keeps some in words has one of the other that stands with it. -/
theorem simA_fwd (hR : SimA n m m' L X rg L' X' rg' pv D mu Q) (hc : COk n L X m lk rg) (hc' : COk n L' X' m' lk rg') {s0 s0' : Sx} (hs : SOk n L m lk rg 0 s0) (hs' : SOk n L' m' lk rg' 0 s0') (hf : s0.fell = false) (hf' : s0'.fell = false) (hnf : NoF L' X' s0') (hb : RelA n m' Q s0 s0') (hA : Rch (nxX L X 0) s0 A) : ∃ S, Rch (nxX L' X' 0) s0' S ∧ RelA n m' Q A S := by
  induction hA with
  | base => exact ⟨s0', .base, hb⟩
  | @step A A' hA hnx ih =>
    obtain ⟨S, hS, h⟩ := ih
    obtain ⟨hok, hAf⟩ := reach_ok hs hf hc (Int.le_refl _) hA
    obtain ⟨hoS, hSf⟩ := reach_ok hs' hf' hc' (Int.le_refl _) hS
    rcases nx_cases hAf (fun t ht => hok.wlen t (by rw [← hok.ths]; exact ht)) hnx with ⟨t, p, rs, k, ht, ha, he, rfl⟩ | ⟨t, k, ht, hk, _, _⟩
    · have htn : t < n := by rw [← hok.ths]; exact ht
      have htS : t < S.ths.length := by rw [h.ls]; exact htn
      have hl := able_lt ha
      rw [h.wa t htn]
      cases hd : D t (thOf A t).pc with
      | true =>
        obtain ⟨_, p2, r2, k2, g2, g3, _⟩ := h.gone hR hok htn hl hd
        rw [he] at g2
        simp only [Option.some.injEq, Prod.mk.injEq] at g2
        obtain ⟨rfl, rfl, rfl⟩ := g2
        exact ⟨S, hS, g3⟩
      | false =>
        have haS := (h.able hR hok htn (fun _ => hd)).trans ha
        have hef := h.eff hR hok hoS htn hl hd (hnf S hS t htS haS)
        rw [he] at hef
        cases e2 : effT X' S t with
        | none => rw [e2] at hef; exact absurd hef id
        | some q =>
          obtain ⟨p', r', k'⟩ := q
          rw [e2] at hef
          obtain ⟨rfl, hak, hq⟩ := hef
          have hr := rch_eff hS hSf htS haS e2
          rw [h.ws t htn] at hr
          exact ⟨_, hr, (h.setTh htn hq).act hR hak⟩
    · have htn : t < n := by rw [← hok.ths]; exact ht
      rw [h.wa t htn] at hk
      cases hk
/-- Each state of the other program has one of it. -/
theorem simA_bwd (hR : SimA n m m' L X rg L' X' rg' pv D mu Q) (hc : COk n L X m lk rg) (hc' : COk n L' X' m' lk rg') {s0 s0' : Sx} (hs : SOk n L m lk rg 0 s0) (hs' : SOk n L' m' lk rg' 0 s0') (hf : s0.fell = false) (hf' : s0'.fell = false) (hnf : NoF L' X' s0') (hb : RelA n m' Q s0 s0') (hS : Rch (nxX L' X' 0) s0' S) : ∃ A, Rch (nxX L X 0) s0 A ∧ RelA n m' Q A S := by
  induction hS with
  | base => exact ⟨s0, .base, hb⟩
  | @step S S' hS hnx ih =>
    obtain ⟨A, hA, h⟩ := ih
    obtain ⟨hoS, hSf⟩ := reach_ok hs' hf' hc' (Int.le_refl _) hS
    rcases nx_cases hSf (fun t ht => hoS.wlen t (by rw [← hoS.ths]; exact ht)) hnx with ⟨t, p, rs, k, ht, ha, he, rfl⟩ | ⟨t, k, ht, hk, _, _⟩
    · have htn : t < n := by rw [← h.ls]; exact ht
      obtain ⟨B, hB, hBS, _, hBd⟩ := RelA.past hR hc hs hf htn _ A (Nat.le_refl _) hA h
      obtain ⟨hokB, hBf⟩ := reach_ok hs hf hc (Int.le_refl _) hB
      have htB : t < B.ths.length := by rw [hBS.la]; exact htn
      have hnf' := hnf S hS t ht ha
      rw [hBS.able hR hokB htn hBd] at ha
      have hl := able_lt ha
      have hef := hBS.eff hR hokB hoS htn hl (hBd hl) hnf'
      rw [he] at hef
      rw [hBS.ws t htn]
      cases e2 : effT X B t with
      | none => rw [e2] at hef; exact absurd hef id
      | some q =>
        obtain ⟨p', r', k'⟩ := q
        rw [e2] at hef
        obtain ⟨rfl, hak, hq⟩ := hef
        have hr := rch_eff hB hBf htB ha e2
        rw [hBS.wa t htn] at hr
        exact ⟨_, hr, (hBS.setTh htn hq).act hR hak⟩
    · have htn : t < n := by rw [← h.ls]; exact ht
      rw [h.ws t htn] at hk
      cases hk
/-- An outcome's first words. -/
def cutA (m : Nat) (o : Oc) : Oc := ⟨o.st, o.ws.take m, o.pr⟩
theorem cutA_fall (m : Nat) (p : List Int) : cutA m ⟨1, [], p⟩ = ⟨1, [], p⟩ := by simp [cutA]
/-- Of two states that stand together: what one comes to the other one comes to, but for the words that are a thread's own. -/
theorem RelA.outs (h : RelA n m' Q A S) (hR : SimA n m m' L X rg L' X' rg' pv D mu Q) (hok : SOk n L m lk rg 0 A) (hoS : SOk n L' m' lk rg' 0 S) (hAf : A.fell = false) (hnf : ∀ t, t < S.ths.length → ableT L' X' S t = true → rkO (opT X' S t 0) → effT X' S t ≠ none) (hd : ∀ t, t < n → (thOf A t).pc < L t → D t (thOf A t).pc = false) {o : Oc} : o ∈ outsX L' X' 0 S ↔ ∃ o', o' ∈ outsX L X 0 A ∧ o = cutA m' o' := by
  have hSf : S.fell = false := by rw [h.fe]; exact hAf
  have hend : endedX L' S = endedX L A := ended_eq (h.ls.trans h.la.symm) (fun t ht => ⟨h.ended hR hok (by rw [← h.la]; exact ht) (hd t (by rw [← h.la]; exact ht)), by rw [h.ws t (by rw [← h.la]; exact ht), h.wa t (by rw [← h.la]; exact ht)]⟩)
  have hmv : movesX L X 0 A = [] ↔ movesX L' X' 0 S = [] := by
    rw [moves_nil, moves_nil, h.la, h.ls]
    constructor
    · intro g t ht
      rw [h.able hR hok ht (hd t ht), h.ws t ht]
      exact ⟨(g t ht).1, rfl⟩
    · intro g t ht
      have := g t ht
      rw [h.able hR hok ht (hd t ht)] at this
      rw [h.wa t ht]
      exact ⟨this.1, rfl⟩
  constructor
  · intro ho
    rcases outs_cases hSf (fun t ht => hoS.wlen t (by rw [← hoS.ths]; exact ht)) ho with ⟨g1, rfl⟩ | ⟨t, ht, ha, he, rfl⟩
    · refine ⟨_, outs_end (hmv.2 g1), ?_⟩
      rw [hend, h.wo, h.pr]
      rfl
    · have htn : t < n := by rw [← h.ls]; exact ht
      have hnf' := hnf t ht ha
      rw [h.able hR hok htn (hd t htn)] at ha
      have hl := able_lt ha
      have hef := h.eff hR hok hoS htn hl (hd t htn hl) hnf'
      rw [he] at hef
      have e2 : effT X A t = none := by
        cases e2 : effT X A t with
        | none => rfl
        | some q => rw [e2] at hef; exact absurd hef id
      refine ⟨_, outs_fall (mode := 0) (s := A) (by rw [h.la]; exact htn) ha e2, ?_⟩
      rw [h.pr, cutA_fall]
  · rintro ⟨o', ho, rfl⟩
    rcases outs_cases hAf (fun t ht => hok.wlen t (by rw [← hok.ths]; exact ht)) ho with ⟨g1, rfl⟩ | ⟨t, ht, ha, he, rfl⟩
    · have := outs_end (hmv.1 g1)
      rw [hend, h.wo, h.pr] at this
      exact this
    · have htn : t < n := by rw [← h.la]; exact ht
      have hl := able_lt ha
      have haS := (h.able hR hok htn (hd t htn)).trans ha
      have htS : t < S.ths.length := by rw [h.ls]; exact htn
      have hef := h.eff hR hok hoS htn hl (hd t htn hl) (hnf t htS haS)
      rw [he] at hef
      have e2 : effT X' S t = none := by
        cases e2 : effT X' S t with
        | none => rfl
        | some q => rw [e2] at hef; exact absurd hef id
      have := outs_fall (mode := 0) (s := S) htS haS e2
      rw [h.pr] at this
      rw [cutA_fall]
      exact this
/-- What comes of both is the same, but for the words that are a thread's own. -/
theorem simA_same (hR : SimA n m m' L X rg L' X' rg' pv D mu Q) (hc : COk n L X m lk rg) (hc' : COk n L' X' m' lk rg') {s0 s0' : Sx} (hs : SOk n L m lk rg 0 s0) (hs' : SOk n L' m' lk rg' 0 s0') (hf : s0.fell = false) (hf' : s0'.fell = false) (hnf : NoF L' X' s0') (hb : RelA n m' Q s0 s0') {o : Oc} : (∃ S, Rch (nxX L' X' 0) s0' S ∧ o ∈ outsX L' X' 0 S) ↔ ∃ A o', Rch (nxX L X 0) s0 A ∧ o' ∈ outsX L X 0 A ∧ o = cutA m' o' := by
  constructor
  · rintro ⟨S, hS, ho⟩
    obtain ⟨A0, hA0, h0⟩ := simA_bwd hR hc hc' hs hs' hf hf' hnf hb hS
    obtain ⟨A, hA, h, hd⟩ := RelA.all hR hc hs hf hA0 h0 n (Nat.le_refl _)
    obtain ⟨hok, hAf⟩ := reach_ok hs hf hc (Int.le_refl _) hA
    obtain ⟨hoS, _⟩ := reach_ok hs' hf' hc' (Int.le_refl _) hS
    obtain ⟨o', h1, h2⟩ := (h.outs hR hok hoS hAf (hnf S hS) hd).1 ho
    exact ⟨A, o', hA, h1, h2⟩
  · rintro ⟨A, o', hA, ho, rfl⟩
    obtain ⟨S, hS, h⟩ := simA_fwd hR hc hc' hs hs' hf hf' hnf hb hA
    obtain ⟨hok, hAf⟩ := reach_ok hs hf hc (Int.le_refl _) hA
    obtain ⟨hoS, hSf⟩ := reach_ok hs' hf' hc' (Int.le_refl _) hS
    rcases outs_cases hAf (fun t ht => hok.wlen t (by rw [← hok.ths]; exact ht)) ho with ⟨g1, _⟩ | ⟨t, ht, ha, he, rfl⟩
    · refine ⟨S, hS, (h.outs hR hok hoS hAf (hnf S hS) (fun t ht hl => ?_)).2 ⟨o', ho, rfl⟩⟩
      cases e : D t (thOf A t).pc with
      | false => rfl
      | true =>
        have := (h.gone hR hok ht hl e).1
        rw [moves_nil] at g1
        rw [(g1 t (by rw [h.la]; exact ht)).1] at this
        cases this
    · have htn : t < n := by rw [← h.la]; exact ht
      have htS : t < S.ths.length := by rw [h.ls]; exact htn
      have hl := able_lt ha
      have hd : D t (thOf A t).pc = false := by
        cases e : D t (thOf A t).pc with
        | false => rfl
        | true =>
          obtain ⟨_, p, r, k, g2, _⟩ := h.gone hR hok htn hl e
          rw [he] at g2
          cases g2
      have haS := (h.able hR hok htn (fun _ => hd)).trans ha
      have hef := h.eff hR hok hoS htn hl hd (hnf S hS t htS haS)
      rw [he] at hef
      have e2 : effT X' S t = none := by
        cases e2 : effT X' S t with
        | none => rfl
        | some q => rw [e2] at hef; exact absurd hef id
      have := outs_fall (mode := 0) (s := S) htS haS e2
      rw [h.pr] at this
      rw [cutA_fall]
      exact ⟨S, hS, this⟩
end

end Go.Proofs.YtocfocjnnjdcgaaDoor
