/-
  A program with words in place of its locks: how its states stand to those of the program with locks. Plain functions.
  A program with words in place of its locks: each of its steps is one of the program with locks, or none. Plain functions.
-/
import Derived.Test.YtefnmbnakphhfadGreatDoorEffP
import Derived.Test.YtefnmbnakphhfadGreatDoorOrder
namespace Go.Proofs.YtefnmbnakphhfadGreatDoor
section
open Go.RowKit

/-- One program is the other with words in place of its locks, m words ahead of them. pl: the new place of each order, and of the one behind the last. -/
structure SpinR (n m : Nat) (L : Nat → Nat) (X : Nat → Nat → Nat → Int) (L' : Nat → Nat) (X' : Nat → Nat → Nat → Int) (pl : Nat → Nat → Nat) : Prop where
  z : ∀ t, t < n → pl t 0 = 0
  e : ∀ t, t < n → pl t (L t) = L' t
  lt : ∀ t i, t < n → i < L t → pl t i < L' t
  mv : ∀ t i, t < n → i < L t → X t i 0 ≠ 17 → X t i 0 ≠ 18 → pl t (i + 1) = pl t i + 1 ∧ MovO (pl t) (X t i 0) (X t i 1) (X t i 2) (X t i 3) (X' t (pl t i) 0) (X' t (pl t i) 1) (X' t (pl t i) 2) (X' t (pl t i) 3)
  lk : ∀ t i, t < n → i < L t → X t i 0 = 17 → pl t (i + 1) = pl t i + 4 ∧ pl t i + 4 ≤ L' t ∧ ordAt X' t (pl t i) = (1, 6, 0, 0) ∧ ordAt X' t (pl t i + 1) = (1, 7, 1, 0) ∧ ordAt X' t (pl t i + 2) = (13, (m : Int) + X t i 1, 6, 7) ∧ ordAt X' t (pl t i + 3) = (15, 6, (pl t i : Int), 0)
  ul : ∀ t i, t < n → i < L t → X t i 0 = 18 → pl t (i + 1) = pl t i + 2 ∧ pl t i + 2 ≤ L' t ∧ ordAt X' t (pl t i) = (1, 6, 0, 0) ∧ ordAt X' t (pl t i + 1) = (9, (m : Int) + X t i 1, 6, 0)
/-- What a lock's word holds. -/
def lockV (o : Int) : Int := if o = -1 then 0 else 1
/-- What waits, with words in place of locks. -/
def wmap (m : Nat) (x : Wt) : Wt := if x.lk then ⟨false, (m : Int) + x.wh, 0⟩ else x
/-- What an order does, with words in place of locks. -/
def akM (m : Nat) : Ak → Ak
  | .take a => .swap ((m : Int) + a) 1
  | .free a => .put ((m : Int) + a) 0
  | k => k
/-- Registers: the program's own are the same. -/
def RgR (rg : Nat) (a s : List Int) : Prop := s.length = 8 ∧ ∀ r : Nat, r < rg → s.getD r 0 = a.getD r 0
/-- Where a thread stands: at the first of what its order became, or within it. -/
def PosT (L : Nat → Nat) (X : Nat → Nat → Nat → Int) (pl : Nat → Nat → Nat) (t i j : Nat) (rs : List Int) : Prop :=
  j = pl t i ∨
  (i < L t ∧ X t i 0 = 17 ∧ j = pl t i + 1 ∧ rs.getD 6 0 = 0) ∨
  (i < L t ∧ X t i 0 = 17 ∧ j = pl t i + 2 ∧ rs.getD 6 0 = 0 ∧ rs.getD 7 0 = 1) ∨
  (i < L t ∧ X t i 0 = 17 ∧ j = pl t i + 3 ∧ rs.getD 6 0 = 0) ∨
  (i < L t ∧ X t i 0 = 18 ∧ j = pl t i + 1 ∧ rs.getD 6 0 = 0) ∨
  ∃ k, k < L t ∧ X t k 0 = 17 ∧ i = k + 1 ∧ j = pl t k + 3 ∧ rs.getD 6 0 = 1
/-- How a thread stands to that of the program with locks. -/
structure STh (L : Nat → Nat) (X : Nat → Nat → Nat → Int) (pl : Nat → Nat → Nat) (m rg t : Nat) (a s : Th) : Prop where
  rg : RgR rg a.regs s.regs
  wait : s.wait = a.wait.map (wmap m)
  pos : PosT L X pl t a.pc s.pc s.regs
/-- How a state stands to that of the program with locks. -/
structure SSt (n m rg : Nat) (L : Nat → Nat) (X : Nat → Nat → Nat → Int) (pl : Nat → Nat → Nat) (A S : Sx) : Prop where
  len : S.ths.length = n
  words : S.words = A.words ++ A.own.map lockV
  prints : S.prints = A.prints
  fell : S.fell = false
  th : ∀ t, t < n → STh L X pl m rg t (thOf A t) (thOf S t)

theorem RgR.set {rg : Nat} {a s : List Int} (h : RgR rg a s) (hl : a.length = rg) (hg : rg ≤ 6) {r : Int} (v : Int) : RgR rg (a.set r.toNat v) (s.set r.toNat v) := by
  refine ⟨by rw [List.length_set]; exact h.1, fun k hk => ?_⟩
  by_cases e : r.toNat = k
  · rw [e]
    have h1 := h.1
    simp [List.getD, hl, hk, h1, show k < 8 by omega]
  · rw [List.getD_eq_getElem?_getD, List.getD_eq_getElem?_getD, List.getElem?_set_ne e, List.getElem?_set_ne e, ← List.getD_eq_getElem?_getD, ← List.getD_eq_getElem?_getD]
    exact h.2 k hk
theorem RgR.far {rg : Nat} {a s : List Int} (h : RgR rg a s) {k : Nat} (hk : rg ≤ k) (v : Int) : RgR rg a (s.set k v) := by
  refine ⟨by rw [List.length_set]; exact h.1, fun r hr => ?_⟩
  rw [List.getD_eq_getElem?_getD, List.getElem?_set_ne (by omega), ← List.getD_eq_getElem?_getD]
  exact h.2 r hr
theorem RgR.get {rg : Nat} {a s : List Int} (h : RgR rg a s) {r : Int} (h0 : 0 ≤ r) (hr : r < rg) : s.getD r.toNat 0 = a.getD r.toNat 0 := h.2 _ (by omega)
theorem get_set_same {s : List Int} {k : Nat} (h : k < s.length) (v : Int) : (s.set k v).getD k 0 = v := by simp [List.getD, h]
theorem get_set_far {s : List Int} {k r : Nat} (h : k ≠ r) (v : Int) : (s.set k v).getD r 0 = s.getD r 0 := by
  rw [List.getD_eq_getElem?_getD, List.getElem?_set_ne h, ← List.getD_eq_getElem?_getD]
/-- An order that is not of locks does the same to the program's own registers. -/
theorem eff_rg {rg m m' lk sz : Nat} {op a b c : Int} (ho : ordE rg m lk sz op a b c = 0) (h17 : op ≠ 17) (h18 : op ≠ 18) {pc : Nat} {rs rs' : List Int} {rd rd' : Int → Int} {fr fr' : Int → Bool} (hr : RgR rg rs rs') (hl : rs.length = rg) (hg : rg ≤ 6) (hrd : ∀ w, 0 ≤ w → w < (m : Int) → rd' w = rd w) (hm : m ≤ m') {p : Nat} {r : List Int} {k : Ak} (h : effX pc rs rd fr m op a b c = some (p, r, k)) :
    ∃ r', effX pc rs' rd' fr' m' op a b c = some (p, r', k) ∧ RgR rg r r' := by
  have g : ∀ {x : Int}, 0 ≤ x ∧ x < (rg : Int) → rs'.getD x.toNat 0 = rs.getD x.toNat 0 := fun hx => hr.get hx.1 hx.2
  unfold effX at h ⊢
  rcases op_cases op with h1 | rfl | rfl | rfl | rfl | rfl | rfl | rfl | rfl | rfl | rfl | rfl | rfl | rfl | rfl | rfl | rfl | rfl | rfl
  · have := ok_op ho
    omega
  all_goals simp only [Int.reduceEq, ↓reduceIte] at h ⊢
  · have o := ok_const ho
    cases h
    exact ⟨_, rfl, hr.set hl hg _⟩
  · have o := ok_rr (Or.inl rfl) ho
    cases h
    rw [g o.2]
    exact ⟨_, rfl, hr.set hl hg _⟩
  · have o := ok_rrr (Or.inl rfl) ho
    cases h
    rw [g o.2.1, g o.2.2]
    exact ⟨_, rfl, hr.set hl hg _⟩
  · have o := ok_rrr (Or.inr (Or.inl rfl)) ho
    cases h
    rw [g o.2.1, g o.2.2]
    exact ⟨_, rfl, hr.set hl hg _⟩
  · have o := ok_rrr (Or.inr (Or.inr (Or.inl rfl))) ho
    cases h
    rw [g o.2.1, g o.2.2]
    exact ⟨_, rfl, hr.set hl hg _⟩
  · have o := ok_rrr (Or.inr (Or.inr (Or.inr (Or.inl rfl)))) ho
    cases h
    simp only [g o.2.1, g o.2.2]
    exact ⟨_, rfl, hr.set hl hg _⟩
  · have o := ok_rrr (Or.inr (Or.inr (Or.inr (Or.inr rfl)))) ho
    cases h
    simp only [g o.2.1, g o.2.2]
    exact ⟨_, rfl, hr.set hl hg _⟩
  · have o := ok_load ho
    cases h
    rw [hrd _ o.2.1 o.2.2]
    exact ⟨_, rfl, hr.set hl hg _⟩
  · have o := ok_store ho
    cases h
    rw [g o.2]
    exact ⟨_, rfl, hr⟩
  · have o := ok_rr (Or.inr (Or.inl rfl)) ho
    rw [g o.2]
    split at h
    · cases h
    · rename_i h1
      cases h
      rw [if_neg (by omega), hrd _ (by omega) (by omega)]
      exact ⟨_, rfl, hr.set hl hg _⟩
  · have o := ok_rr (Or.inr (Or.inr rfl)) ho
    rw [g o.2, g o.1]
    split at h
    · cases h
    · rename_i h1
      cases h
      rw [if_neg (by omega)]
      exact ⟨_, rfl, hr⟩
  · cases h
    exact ⟨_, rfl, hr⟩
  · have o := ok_cas ho
    rw [g o.2.1, g o.2.2, hrd _ o.1.1 o.1.2]
    split at h
    · rename_i h1
      cases h
      rw [if_pos h1]
      exact ⟨_, rfl, hr.set hl hg _⟩
    · rename_i h1
      cases h
      rw [if_neg h1]
      exact ⟨_, rfl, hr.set hl hg _⟩
  · cases h
    exact ⟨_, rfl, hr⟩
  · have o := ok_zero ho
    simp only [g o.1]
    split at h
    · rename_i h1
      cases h
      rw [if_pos h1]
      exact ⟨_, rfl, hr⟩
    · rename_i h1
      cases h
      rw [if_neg h1]
      exact ⟨_, rfl, hr⟩
  · have o := ok_print ho
    cases h
    rw [g o]
    exact ⟨_, rfl, hr⟩
  · exact absurd rfl h17
  · exact absurd rfl h18
theorem hit_map {m : Nat} {w : Int} (hw : w < m) {x : Wt} (hx : x.lk = true → 0 ≤ x.wh) : hitW w (wmap m x) = hitW w x := by
  unfold wmap hitW
  cases e : x.lk with
  | false => simp [e]
  | true =>
    have := hx e
    simp only [↓reduceIte, Bool.not_false, Bool.true_and, Bool.not_true, Bool.false_and]
    exact decide_eq_false (by omega)
theorem what_map {m : Nat} {w : Int} {x : Wt} (h : hitW w x = true) : (wmap m x).what = x.what := by
  unfold hitW at h
  unfold wmap
  cases e : x.lk with
  | false => simp
  | true => rw [e] at h; simp at h
theorem last_map {m : Nat} {w : Int} (hw : w < m) : ∀ {l : List Wt}, (∀ x, x ∈ l → x.lk = true → 0 ≤ x.wh) → lastI (l.map (wmap m)) w = lastI l w
  | [], _ => rfl
  | x :: l, h => by
    rw [List.map_cons, lastI_cons, lastI_cons, last_map hw (fun y hy => h y (by simp [hy])), hit_map hw (h x (by simp))]
    cases e : hitW w x with
    | false => rfl
    | true => rw [if_pos rfl, if_pos rfl, what_map e]
theorem ownw_low {A : Sx} {l : List Int} {w : Int} (h : w.toNat < A.words.length) : (A.words ++ l).getD w.toNat 0 = A.words.getD w.toNat 0 := by
  rw [List.getD_eq_getElem?_getD, List.getElem?_append_left h, ← List.getD_eq_getElem?_getD]
section
variable {n m lk rg : Nat} {L L' : Nat → Nat} {X X' : Nat → Nat → Nat → Int} {pl : Nat → Nat → Nat} {mode : Int}
/-- What a thread finds in the program's own words is the same. -/
theorem SSt.finds {A S : Sx} (h : SSt n m rg L X pl A S) (hok : SOk n L m lk rg mode A) {t : Nat} (ht : t < n) {w : Int} (h0 : 0 ≤ w) (hw : w < m) : findsW S t w = findsW A t w := by
  rw [finds_last, finds_last, (h.th t ht).wait, last_map hw (fun x hx hl => (hok.wok t ht x hx).1.1), h.words, ownw_low (by rw [hok.words]; omega)]
/-- A lock's word. -/
theorem SSt.lock {A S : Sx} (h : SSt n m rg L X pl A S) (hok : SOk n L m lk rg mode A) {a : Int} (h0 : 0 ≤ a) (ha : a < lk) : S.words.getD ((m : Int) + a).toNat 0 = lockV (A.own.getD a.toNat 0) := by
  obtain ⟨k, rfl, hk⟩ := toN ⟨h0, ha⟩
  have e : ((m : Int) + (k : Int)).toNat = m + k := by omega
  have hkl : k < A.own.length := by rw [hok.own]; exact hk
  rw [h.words, e, List.getD_eq_getElem?_getD, List.getElem?_append_right (by rw [hok.words]; omega), hok.words, show m + k - m = k by omega]
  simp [List.getD, hkl]
theorem ownw_set {A : Sx} {l : List Int} {a : Int} (h : a.toNat < A.words.length) (v : Int) : (A.words ++ l).set a.toNat v = A.words.set a.toNat v ++ l := List.set_append_left _ _ h
theorem lockw_set {A : Sx} (hm : A.words.length = m) {a : Int} (h0 : 0 ≤ a) (v : Int) : (A.words ++ A.own.map lockV).set ((m : Int) + a).toNat (lockV v) = A.words ++ (A.own.set a.toNat v).map lockV := by
  have e : ((m : Int) + a).toNat = m + a.toNat := by omega
  rw [e, List.set_append_right _ _ (by omega), hm, show m + a.toNat - m = a.toNat by omega, List.map_set]
/-- What an order does is what may be. -/
def AkOk (m lk : Nat) : Ak → Prop
  | .put a _ => 0 ≤ a ∧ a < m
  | .swap a _ => 0 ≤ a ∧ a < m
  | .free a => 0 ≤ a ∧ a < lk
  | .take a => 0 ≤ a ∧ a < lk
  | _ => True
theorem STh.push {t : Nat} {a s : Th} (h : STh L X pl m rg t a s) (x : Wt) : STh L X pl m rg t { a with wait := a.wait ++ [x] } { s with wait := s.wait ++ [wmap m x] } :=
  ⟨h.rg, by show s.wait ++ _ = (a.wait ++ [x]).map (wmap m); rw [h.wait, List.map_append]; rfl, h.pos⟩
/-- A thread stands elsewhere. -/
theorem SSt.set {A S : Sx} (h : SSt n m rg L X pl A S) (hA : A.ths.length = n) {t : Nat} (ht : t < n) {a s : Th} (hs : STh L X pl m rg t a s) : SSt n m rg L X pl (setTh A t a) (setTh S t s) := by
  refine ⟨by rw [← h.len]; simp [setTh], h.words, h.prints, h.fell, fun u hu => ?_⟩
  rw [thOf_set (by rw [hA]; exact ht), thOf_set (by rw [h.len]; exact ht)]
  by_cases e : u = t
  · rw [if_pos e, if_pos e, e]; exact hs
  · rw [if_neg e, if_neg e]; exact h.th u hu
theorem SSt.done {A S : Sx} (h : SSt n m rg L X pl A S) (hA : A.words.length = m) {x : Wt} (hx : 0 ≤ x.wh) (hm : x.lk = false → x.wh < m) : SSt n m rg L X pl (doneW A x) (doneW S (wmap m x)) := by
  unfold doneW wmap
  cases e : x.lk with
  | false =>
    simp only [Bool.false_eq_true, ↓reduceIte, e]
    refine ⟨h.len, ?_, h.prints, h.fell, h.th⟩
    show S.words.set _ _ = A.words.set _ _ ++ _
    rw [h.words]
    exact ownw_set (by have := hm e; omega) _
  | true =>
    simp only [↓reduceIte, Bool.false_eq_true]
    refine ⟨h.len, ?_, h.prints, h.fell, h.th⟩
    show S.words.set _ _ = A.words ++ (A.own.set _ _).map lockV
    rw [h.words]
    exact lockw_set hA hx (-1)
theorem SSt.store {A S : Sx} (h : SSt n m rg L X pl A S) (hA : A.words.length = m) (hl : A.ths.length = n) {t : Nat} (ht : t < n) {x : Wt} (hx : 0 ≤ x.wh) (hm : x.lk = false → x.wh < m) : SSt n m rg L X pl (storeW mode A t x) (storeW mode S t (wmap m x)) := by
  unfold storeW
  split
  · exact h.set hl ht ((h.th t ht).push x)
  · exact h.done hA hx hm
/-- What an order does, done to both. -/
theorem SSt.act {A S : Sx} (h : SSt n m rg L X pl A S) (hA : A.words.length = m) (hl : A.ths.length = n) {t : Nat} (ht : t < n) {k : Ak} (hk : AkOk m lk k) : SSt n m rg L X pl (actX mode A t k) (actX mode S t (akM m k)) := by
  cases k with
  | no => exact h
  | put a v => exact h.store (x := ⟨false, a, v⟩) hA hl ht hk.1 (fun _ => hk.2)
  | free a => exact h.store (x := ⟨true, a, 0⟩) hA hl ht hk.1 (fun e => Bool.noConfusion e)
  | take a =>
    refine ⟨h.len, ?_, h.prints, h.fell, h.th⟩
    show S.words.set _ _ = A.words ++ (A.own.set _ _).map lockV
    rw [h.words]
    have := lockw_set (m := m) hA hk.1 (t : Int)
    have e : lockV (t : Int) = 1 := by unfold lockV; rw [if_neg (by omega)]
    rw [e] at this
    exact this
  | swap a v =>
    refine ⟨h.len, ?_, h.prints, h.fell, h.th⟩
    show S.words.set _ _ = A.words.set _ _ ++ _
    rw [h.words]
    exact ownw_set (by rw [hA]; have := hk.1; have := hk.2; omega) _
  | say v => exact ⟨h.len, h.words, by show S.prints ++ _ = A.prints ++ _; rw [h.prints], h.fell, h.th⟩
/-- An order that may be does what may be. -/
theorem eff_ak {sz : Nat} {op a b c : Int} (ho : ordE rg m lk sz op a b c = 0) {pc : Nat} {rs : List Int} {rd : Int → Int} {fr : Int → Bool} {p : Nat} {r : List Int} {k : Ak} (h : effX pc rs rd fr m op a b c = some (p, r, k)) : AkOk m lk k := by
  unfold effX at h
  rcases op_cases op with h1 | rfl | rfl | rfl | rfl | rfl | rfl | rfl | rfl | rfl | rfl | rfl | rfl | rfl | rfl | rfl | rfl | rfl | rfl
  · have := ok_op ho
    omega
  all_goals simp only [Int.reduceEq, ↓reduceIte] at h
  all_goals try (cases h; exact trivial)
  · have o := ok_store ho
    cases h
    exact o.1
  · split at h
    · cases h
    · cases h; exact trivial
  · split at h
    · cases h
    · rename_i h1
      cases h
      show 0 ≤ _ ∧ _ < _
      omega
  · have o := ok_cas ho
    split at h
    · cases h; exact o.1
    · cases h; exact trivial
  · split at h <;> (cases h; exact trivial)
  · have o := ok_lock (Or.inl rfl) ho
    cases h
    exact o
  · have o := ok_lock (Or.inr rfl) ho
    split at h
    · cases h; exact o
    · cases h
end
end

section
open Go.RowKit

/-- Nobody falls. -/
def NoFall (n : Nat) (L : Nat → Nat) (X : Nat → Nat → Nat → Int) (mode : Int) (s0 : Sx) : Prop := ∀ A, Rch (nxX L X mode) s0 A → ∀ t, t < n → ableT L X A t = true → effT X A t ≠ none
theorem opT_at {X : Nat → Nat → Nat → Int} {s : Sx} {t j : Nat} (hj : (thOf s t).pc = j) {o a b c : Int} (h : ordAt X t j = (o, a, b, c)) : opT X s t 0 = o ∧ opT X s t 1 = a ∧ opT X s t 2 = b ∧ opT X s t 3 = c := by
  unfold ordAt at h
  simp only [Prod.mk.injEq] at h
  unfold opT
  rw [hj]
  exact h
theorem eff_const {X : Nat → Nat → Nat → Int} {s : Sx} {t j : Nat} (hj : (thOf s t).pc = j) {a b c : Int} (h : ordAt X t j = (1, a, b, c)) : effT X s t = some (j + 1, (thOf s t).regs.set a.toNat b, .no) := by
  obtain ⟨h0, h1, h2, _⟩ := opT_at hj h
  unfold effT effX
  rw [h0, h1, h2, hj]
  simp only [↓reduceIte]
theorem eff_zero {X : Nat → Nat → Nat → Int} {s : Sx} {t j : Nat} (hj : (thOf s t).pc = j) {a b c : Int} (h : ordAt X t j = (15, a, b, c)) : effT X s t = some (if (thOf s t).regs.getD a.toNat 0 = 0 then b.toNat else j + 1, (thOf s t).regs, .no) := by
  obtain ⟨h0, h1, h2, _⟩ := opT_at hj h
  unfold effT effX
  rw [h0, h1, h2, hj]
  simp only [Int.reduceEq, ↓reduceIte]
  split <;> rfl
theorem eff_store {X : Nat → Nat → Nat → Int} {s : Sx} {t j : Nat} (hj : (thOf s t).pc = j) {a b c : Int} (h : ordAt X t j = (9, a, b, c)) : effT X s t = some (j + 1, (thOf s t).regs, .put a ((thOf s t).regs.getD b.toNat 0)) := by
  obtain ⟨h0, h1, h2, _⟩ := opT_at hj h
  unfold effT effX
  rw [h0, h1, h2, hj]
  simp only [Int.reduceEq, ↓reduceIte]
theorem eff_cas {X : Nat → Nat → Nat → Int} {s : Sx} {t j : Nat} (hj : (thOf s t).pc = j) (hw : (thOf s t).wait = []) {a b c : Int} (h : ordAt X t j = (13, a, b, c)) : effT X s t = if s.words.getD a.toNat 0 = (thOf s t).regs.getD b.toNat 0 then some (j + 1, (thOf s t).regs.set b.toNat 1, .swap a ((thOf s t).regs.getD c.toNat 0)) else some (j + 1, (thOf s t).regs.set b.toNat 0, .no) := by
  obtain ⟨h0, h1, h2, h3⟩ := opT_at hj h
  unfold effT effX
  rw [h0, h1, h2, h3, hj]
  simp only [Int.reduceEq, ↓reduceIte, findsW_bare hw]
theorem able_at {L : Nat → Nat} {X : Nat → Nat → Nat → Int} {s : Sx} {t j : Nat} (hj : (thOf s t).pc = j) (hl : j < L t) {o a b c : Int} (h : ordAt X t j = (o, a, b, c)) (ho : o = 1 ∨ o = 15 ∨ (o = 13 ∧ (thOf s t).wait = []) ∨ (o = 9 ∧ (thOf s t).wait.length < 3)) : ableT L X s t = true := by
  obtain ⟨h0, _⟩ := opT_at hj h
  unfold ableT endedT
  rw [h0, hj, decide_eq_false (by omega)]
  rcases ho with rfl | rfl | ⟨rfl, hw⟩ | ⟨rfl, hw⟩
  · rfl
  · rfl
  · rw [hw]; rfl
  · simp only [Bool.false_eq_true, ↓reduceIte, true_or]
    exact decide_eq_true hw
section
variable {n m lk rg : Nat} {L L' : Nat → Nat} {X X' : Nat → Nat → Nat → Int} {pl : Nat → Nat → Nat} {mode : Int}
theorem pos_lt (hR : SpinR n m L X L' X' pl) {t i j : Nat} {rs : List Int} (ht : t < n) (h : PosT L X pl t i j rs) : (j = pl t i ∧ (i < L t → j < L' t) ∧ (i = L t → j = L' t)) ∨ j < L' t := by
  rcases h with h | ⟨h1, h2, h3, _⟩ | ⟨h1, h2, h3, _⟩ | ⟨h1, h2, h3, _⟩ | ⟨h1, h2, h3, _⟩ | ⟨k, h1, h2, _, h3, _⟩
  · exact Or.inl ⟨h, fun e => by rw [h]; exact hR.lt t i ht e, fun e => by rw [h, e]; exact hR.e t ht⟩
  all_goals right
  · have := (hR.lk t i ht h1 h2).2.1; omega
  · have := (hR.lk t i ht h1 h2).2.1; omega
  · have := (hR.lk t i ht h1 h2).2.1; omega
  · have := (hR.ul t i ht h1 h2).2.1; omega
  · have := (hR.lk t k ht h1 h2).2.1; omega
/-- An order that is not of locks: both are able, and do the same. -/
theorem SSt.plain (hR : SpinR n m L X L' X' pl) (hc : COk n L X m lk rg) (hg : rg ≤ 6) {A S : Sx} (h : SSt n m rg L X pl A S) (hok : SOk n L m lk rg mode A) {t : Nat} (ht : t < n) (hp : (thOf S t).pc = pl t (thOf A t).pc) (hl : (thOf A t).pc < L t) (h17 : opT X A t 0 ≠ 17) (h18 : opT X A t 0 ≠ 18) :
    ableT L' X' S t = ableT L X A t ∧ ∀ p r k, effT X A t = some (p, r, k) → ∃ r', effT X' S t = some (pl t p, r', k) ∧ akM m k = k ∧ SSt n m rg L X pl (actX mode (setTh A t ⟨p, r, (thOf A t).wait⟩) t k) (actX mode (setTh S t ⟨pl t p, r', (thOf S t).wait⟩) t k) := by
  obtain ⟨hnx, hmv⟩ := hR.mv t _ ht hl h17 h18
  have hmv' : MovO (pl t) (opT X A t 0) (opT X A t 1) (opT X A t 2) (opT X A t 3) (opT X' S t 0) (opT X' S t 1) (opT X' S t 2) (opT X' S t 3) := by unfold opT; rw [hp]; exact hmv
  have hth := h.th t ht
  refine ⟨?_, fun p r k he => ?_⟩
  · unfold ableT
    have e1 : endedT L' S t = false := by
      unfold endedT
      rw [hp]
      have := hR.lt t _ ht hl
      exact decide_eq_false (by omega)
    have e2 : endedT L A t = false := by unfold endedT; exact decide_eq_false (by omega)
    rw [e1, e2, hmv'.o, hth.wait, List.length_map]
    simp only [Bool.false_eq_true, ↓reduceIte, if_neg h17]
  · have ho := hc.ord t _ ht hl
    have ho : ordE rg m lk (L t) (opT X A t 0) (opT X A t 1) (opT X A t 2) (opT X A t 3) = 0 := ho
    unfold effT at he
    rw [hok.words] at he
    have hak := eff_ak ho he
    obtain ⟨r', e', hr'⟩ := eff_rg (m' := S.words.length) (rd' := findsW S t) (fr' := freesW S t) ho h17 h18 hth.rg (hok.regs t ht) hg (fun w h0 hw => h.finds hok ht h0 hw) (by rw [h.words, List.length_append, hok.words]; omega) he
    have hkk : akM m k = k := by
      cases k with
      | take a => exact absurd (eff_take (he : effX _ _ _ _ _ _ _ _ _ = _)).1 h17
      | free a => exact absurd (eff_free (he : effX _ _ _ _ _ _ _ _ _ = _)).1 h18
      | no => rfl
      | put a v => rfl
      | swap a v => rfl
      | say v => rfl
    refine ⟨r', ?_, hkk, ?_⟩
    · unfold effT
      rw [hp, ← hnx, eff_mov hmv', e']
      rfl
    · have h1 : SSt n m rg L X pl (setTh A t ⟨p, r, (thOf A t).wait⟩) (setTh S t ⟨pl t p, r', (thOf S t).wait⟩) := h.set hok.ths ht ⟨hr', hth.wait, Or.inl rfl⟩
      have h2 := h1.act (mode := mode) hok.words (by simp [setTh, hok.ths]) ht hak
      rw [hkk] at h2
      exact h2
/-- A lock is taken. -/
theorem SSt.takes {A S : Sx} (h : SSt n m rg L X pl A S) (hc : COk n L X m lk rg) (hok : SOk n L m lk rg mode A) {t : Nat} (ht : t < n) (hl : (thOf A t).pc < L t) (h17 : opT X A t 0 = 17) {p' : Nat} {r' : List Int} (hs : STh L X pl m rg t ⟨(thOf A t).pc + 1, (thOf A t).regs, (thOf A t).wait⟩ ⟨p', r', (thOf S t).wait⟩) :
    effT X A t = some ((thOf A t).pc + 1, (thOf A t).regs, .take (opT X A t 1)) ∧ SSt n m rg L X pl (actX mode (setTh A t ⟨(thOf A t).pc + 1, (thOf A t).regs, (thOf A t).wait⟩) t (.take (opT X A t 1))) (actX mode (setTh S t ⟨p', r', (thOf S t).wait⟩) t (.swap ((m : Int) + opT X A t 1) 1)) := by
  have ho := hc.ord t _ ht hl
  have ho' : ordE rg m lk (L t) 17 (opT X A t 1) (opT X A t 2) (opT X A t 3) = 0 := by rw [← h17]; exact ho
  have ok := ok_lock (Or.inl rfl) ho'
  refine ⟨?_, (h.set hok.ths ht hs).act (lk := lk) (k := .take (opT X A t 1)) hok.words (by simp [setTh, hok.ths]) ht ok⟩
  unfold effT effX
  rw [h17]
  simp only [Int.reduceEq, ↓reduceIte]
/-- A lock is let free. -/
theorem SSt.frees {A S : Sx} (h : SSt n m rg L X pl A S) (hc : COk n L X m lk rg) (hok : SOk n L m lk rg mode A) {t : Nat} (ht : t < n) (hl : (thOf A t).pc < L t) (h18 : opT X A t 0 = 18) (he : effT X A t ≠ none) {p' : Nat} {r' : List Int} (hs : STh L X pl m rg t ⟨(thOf A t).pc + 1, (thOf A t).regs, (thOf A t).wait⟩ ⟨p', r', (thOf S t).wait⟩) :
    effT X A t = some ((thOf A t).pc + 1, (thOf A t).regs, .free (opT X A t 1)) ∧ SSt n m rg L X pl (actX mode (setTh A t ⟨(thOf A t).pc + 1, (thOf A t).regs, (thOf A t).wait⟩) t (.free (opT X A t 1))) (actX mode (setTh S t ⟨p', r', (thOf S t).wait⟩) t (.put ((m : Int) + opT X A t 1) 0)) := by
  have ho := hc.ord t _ ht hl
  have ho' : ordE rg m lk (L t) 18 (opT X A t 1) (opT X A t 2) (opT X A t 3) = 0 := by rw [← h18]; exact ho
  have ok := ok_lock (Or.inr rfl) ho'
  refine ⟨?_, (h.set hok.ths ht hs).act (lk := lk) (k := .free (opT X A t 1)) hok.words (by simp [setTh, hok.ths]) ht ok⟩
  unfold effT effX at he ⊢
  rw [h18] at he ⊢
  simp only [Int.reduceEq, ↓reduceIte] at he ⊢
  split at he
  · rename_i h1
    rw [if_pos h1]
  · exact absurd rfl he
/-- What waits is done. -/
theorem SSt.fin {A S : Sx} (h : SSt n m rg L X pl A S) (hok : SOk n L m lk rg mode A) {t : Nat} (ht : t < n) (hw : 0 < (thOf A t).wait.length) :
    SSt n m rg L X pl (setTh (doneW A ((thOf A t).wait.getD 0 default)) t { thOf A t with wait := (thOf A t).wait.eraseIdx 0 }) (setTh (doneW S ((thOf S t).wait.getD 0 default)) t { thOf S t with wait := (thOf S t).wait.eraseIdx 0 }) := by
  have hth := h.th t ht
  have hx : (thOf A t).wait.getD 0 default ∈ (thOf A t).wait := by
    rw [List.getD_eq_getElem?_getD, List.getElem?_eq_getElem hw]
    exact List.getElem_mem hw
  have e1 : (thOf S t).wait.getD 0 default = wmap m ((thOf A t).wait.getD 0 default) := by
    rw [hth.wait]
    simp [List.getD, hw]
  have hk := hok.wok t ht _ hx
  rw [e1]
  have hd := h.done hok.words hk.1.1 (fun e => by have := hk.1.2; rw [e] at this; exact this)
  refine hd.set ?_ ht ⟨hth.rg, ?_, hth.pos⟩
  · unfold doneW
    split <;> exact hok.ths
  · show (thOf S t).wait.eraseIdx 0 = ((thOf A t).wait.eraseIdx 0).map (wmap m)
    rw [hth.wait]
    cases (thOf A t).wait <;> rfl
theorem SSt.wlen {A S : Sx} (h : SSt n m rg L X pl A S) (hok : SOk n L m lk rg mode A) : ∀ t, t < S.ths.length → (thOf S t).wait.length ≤ 3 := fun t ht => by
  have htn : t < n := by rw [← h.len]; exact ht
  rw [(h.th t htn).wait, List.length_map]
  exact hok.wlen t htn
/-- A step of the program with words: the one with locks does the same, or stands still. -/
theorem SSt.step (hR : SpinR n m L X L' X' pl) (hc : COk n L X m lk rg) (hg : rg ≤ 6) (hmode : mode = 0 ∨ mode = 1) {s0 A S S' : Sx} (hnf : NoFall n L X mode s0) (hA : Rch (nxX L X mode) s0 A) (hok : SOk n L m lk rg mode A) (hAf : A.fell = false) (h : SSt n m rg L X pl A S) (hn : S' ∈ nxX L' X' mode S) : ∃ A', Rch (nxX L X mode) s0 A' ∧ SSt n m rg L X pl A' S' := by
  have hAl := hok.ths
  rcases nx_cases h.fell (h.wlen hok) hn with ⟨t, p, rs, k, ht, ha, he, rfl⟩ | ⟨t, k, ht, hk, hmay, rfl⟩
  · have htn : t < n := by rw [← h.len]; exact ht
    have htA : t < A.ths.length := by rw [hAl]; exact htn
    have hth := h.th t htn
    have hjl := able_lt ha
    have hr8 := hth.rg.1
    rcases hth.pos with hp | ⟨h1, h2, h3, h4⟩ | ⟨h1, h2, h3, h4, h5⟩ | ⟨h1, h2, h3, h4⟩ | ⟨h1, h2, h3, h4⟩ | ⟨i, h1, h2, h3, h4, h5⟩
    · have hl : (thOf A t).pc < L t := by
        have := hok.pc t htn
        rcases Nat.lt_or_ge (thOf A t).pc (L t) with h1 | h1
        · exact h1
        · have e : (thOf A t).pc = L t := by omega
          rw [hp, e, hR.e t htn] at hjl
          omega
      by_cases h17 : X t (thOf A t).pc 0 = 17
      · have q := (hR.lk t _ htn hl h17).2.2.1
        rw [eff_const hp q] at he
        cases he
        refine ⟨A, hA, ?_⟩
        have := h.set (a := thOf A t) (s := ⟨pl t (thOf A t).pc + 1, (thOf S t).regs.set 6 0, (thOf S t).wait⟩) hAl htn ⟨hth.rg.far hg _, hth.wait, Or.inr (Or.inl ⟨hl, h17, rfl, get_set_same (by omega) _⟩)⟩
        rw [set_th htA] at this
        exact this
      by_cases h18 : X t (thOf A t).pc 0 = 18
      · have q := (hR.ul t _ htn hl h18).2.2.1
        rw [eff_const hp q] at he
        cases he
        refine ⟨A, hA, ?_⟩
        have := h.set (a := thOf A t) (s := ⟨pl t (thOf A t).pc + 1, (thOf S t).regs.set 6 0, (thOf S t).wait⟩) hAl htn ⟨hth.rg.far hg _, hth.wait, Or.inr (Or.inr (Or.inr (Or.inr (Or.inl ⟨hl, h18, rfl, get_set_same (by omega) _⟩))))⟩
        rw [set_th htA] at this
        exact this
      obtain ⟨e1, e2⟩ := h.plain hR hc hg hok htn hp hl h17 h18
      rw [e1] at ha
      cases e3 : effT X A t with
      | none => exact absurd e3 (hnf A hA t htn ha)
      | some q =>
        obtain ⟨p2, r2, k2⟩ := q
        obtain ⟨r', e4, _, e5⟩ := e2 p2 r2 k2 e3
        rw [e4] at he
        cases he
        exact ⟨_, rch_eff hA hAf htA ha e3, e5⟩
    · have q := (hR.lk t _ htn h1 h2).2.2.2.1
      rw [eff_const h3 q] at he
      cases he
      refine ⟨A, hA, ?_⟩
      have := h.set (a := thOf A t) (s := ⟨pl t (thOf A t).pc + 1 + 1, (thOf S t).regs.set 7 1, (thOf S t).wait⟩) hAl htn ⟨hth.rg.far (by omega) _, hth.wait, Or.inr (Or.inr (Or.inl ⟨h1, h2, rfl, by rw [get_set_far (by omega)]; exact h4, get_set_same (by omega) _⟩))⟩
      rw [set_th htA] at this
      exact this
    · have q := (hR.lk t _ htn h1 h2).2.2.2.2.1
      have hw : (thOf S t).wait = [] := able_13 ha (Or.inr (Or.inl (opT_at h3 q).1))
      have hwA : (thOf A t).wait = [] := by have := hth.wait; rw [hw] at this; exact List.map_eq_nil_iff.mp this.symm
      have ho := hc.ord t _ htn h1
      rw [h2] at ho
      have ok := ok_lock (Or.inl rfl) ho
      rw [eff_cas h3 hw q, h.lock hok ok.1 ok.2, show ((6 : Int)).toNat = 6 from rfl, show ((7 : Int)).toNat = 7 from rfl, h4, h5] at he
      by_cases ho1 : A.own.getD (X t (thOf A t).pc 1).toNat 0 = -1
      · rw [ho1, show lockV (-1) = 0 from rfl, if_pos rfl] at he
        cases he
        have hab : ableT L X A t = true := by
          unfold ableT endedT
          rw [decide_eq_false (by omega), show opT X A t 0 = 17 from h2, hwA]
          simp only [Bool.false_eq_true, ↓reduceIte, Int.reduceEq, or_self, List.length_nil, decide_true, Bool.true_and]
          exact decide_eq_true ho1
        obtain ⟨e1, e2⟩ := h.takes (mode := mode) hc hok htn h1 h2 (p' := pl t (thOf A t).pc + 2 + 1) (r' := (thOf S t).regs.set 6 1) ⟨hth.rg.far hg _, hth.wait, Or.inr (Or.inr (Or.inr (Or.inr (Or.inr ⟨_, h1, h2, rfl, rfl, get_set_same (by omega) _⟩))))⟩
        exact ⟨_, rch_eff hA hAf htA hab e1, e2⟩
      · have : lockV (A.own.getD (X t (thOf A t).pc 1).toNat 0) = 1 := by unfold lockV; rw [if_neg ho1]
        rw [this, if_neg (by decide)] at he
        cases he
        refine ⟨A, hA, ?_⟩
        have := h.set (a := thOf A t) (s := ⟨pl t (thOf A t).pc + 2 + 1, (thOf S t).regs.set 6 0, (thOf S t).wait⟩) hAl htn ⟨hth.rg.far hg _, hth.wait, Or.inr (Or.inr (Or.inr (Or.inl ⟨h1, h2, rfl, get_set_same (by omega) _⟩)))⟩
        rw [set_th htA] at this
        exact this
    · have q := (hR.lk t _ htn h1 h2).2.2.2.2.2
      rw [eff_zero h3 q, show ((6 : Int)).toNat = 6 from rfl, if_pos h4] at he
      cases he
      refine ⟨A, hA, ?_⟩
      have := h.set (a := thOf A t) (s := ⟨pl t (thOf A t).pc, (thOf S t).regs, (thOf S t).wait⟩) hAl htn ⟨hth.rg, hth.wait, Or.inl rfl⟩
      rw [set_th htA] at this
      exact this
    · have q := (hR.ul t _ htn h1 h2).2.2.2
      rw [eff_store h3 q, show ((6 : Int)).toNat = 6 from rfl, h4] at he
      cases he
      have hwl : (thOf A t).wait.length < 3 := by
        have : (thOf S t).wait.length < 3 := by
          unfold ableT at ha
          rw [(opT_at h3 q).1] at ha
          split at ha
          · cases ha
          · simp only [true_or, ↓reduceIte] at ha
            exact of_decide_eq_true ha
        rw [hth.wait, List.length_map] at this
        exact this
      have hab : ableT L X A t = true := by
        unfold ableT endedT
        rw [decide_eq_false (by omega), show opT X A t 0 = 18 from h2]
        simp only [Bool.false_eq_true, ↓reduceIte, or_true]
        exact decide_eq_true hwl
      obtain ⟨e1, e2⟩ := h.frees (mode := mode) hc hok htn h1 h2 (hnf A hA t htn hab) (p' := pl t (thOf A t).pc + 1 + 1) (r' := (thOf S t).regs) ⟨hth.rg, hth.wait, Or.inl (hR.ul t _ htn h1 h2).1.symm⟩
      exact ⟨_, rch_eff hA hAf htA hab e1, e2⟩
    · have q := (hR.lk t _ htn h1 h2).2.2.2.2.2
      rw [eff_zero h4 q, show ((6 : Int)).toNat = 6 from rfl, h5, if_neg (by decide)] at he
      cases he
      refine ⟨A, hA, ?_⟩
      have := h.set (a := thOf A t) (s := ⟨pl t i + 3 + 1, (thOf S t).regs, (thOf S t).wait⟩) hAl htn ⟨hth.rg, hth.wait, Or.inl (by rw [h3]; exact (hR.lk t _ htn h1 h2).1.symm)⟩
      rw [set_th htA] at this
      exact this
  · have htn : t < n := by rw [← h.len]; exact ht
    have htA : t < A.ths.length := by rw [hAl]; exact htn
    have hth := h.th t htn
    have hwl : 0 < (thOf A t).wait.length := by
      rw [hth.wait, List.length_map] at hk
      omega
    have hk0 : k = 0 := by
      rcases hmode with e | e
      · have := hok.bare e t htn
        rw [this] at hwl
        cases hwl
      · unfold mayW at hmay
        by_cases e0 : k = 0
        · exact e0
        · rw [if_neg e0, if_pos (Or.inl e)] at hmay
          cases hmay
    subst hk0
    have hr := rch_fin hA htA (fun e => by rw [e] at hwl; cases hwl) hAf
    rw [doX_wait (k := 0) (by omega)] at hr
    exact ⟨_, hr, h.fin hok htn hwl⟩
end
end

end Go.Proofs.YtefnmbnakphhfadGreatDoor
