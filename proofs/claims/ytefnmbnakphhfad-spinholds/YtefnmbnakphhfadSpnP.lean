/-
  A program with words in place of its locks: how its states stand to those of the program with locks. Plain functions.
-/
import Derived.Test.YtefnmbnakphhfadRaceP
import Derived.Test.YtefnmbnakphhfadBuild4
namespace Go.Proofs.Ytefnmbnakphhfad
open Go.RowKit

/-- One program is the other with words in place of its locks, m words ahead of them. pl: the new place of each order, and of the one behind the last. -/
structure SpinR (n m : Nat) (L : Nat → Nat) (X : Nat → Nat → Nat → Int) (L' : Nat → Nat) (X' : Nat → Nat → Nat → Int) (pl : Nat → Nat → Nat) : Prop where
  z : ∀ t, t < n → pl t 0 = 0
  e : ∀ t, t < n → pl t (L t) = L' t
  lt : ∀ t i, t < n → i < L t → pl t i < L' t
  mv : ∀ t i, t < n → i < L t → X t i 0 ≠ 17 → X t i 0 ≠ 18 → pl t (i + 1) = pl t i + 1 ∧ MovO (pl t) (X t i 0) (X t i 1) (X t i 2) (X t i 3) (X' t (pl t i) 0) (X' t (pl t i) 1) (X' t (pl t i) 2) (X' t (pl t i) 3)
  lk : ∀ t i, t < n → i < L t → X t i 0 = 17 → pl t (i + 1) = pl t i + 4 ∧ pl t i + 4 ≤ L' t ∧ ordAt X' t (pl t i) = (1, 6, 0, 0) ∧ ordAt X' t (pl t i + 1) = (1, 7, 1, 0) ∧ ordAt X' t (pl t i + 2) = (13, (m : Int) + X t i 1, 6, 7) ∧ ordAt X' t (pl t i + 3) = (15, 6, (pl t i : Int), 0)
  ul : ∀ t i, t < n → i < L t → X t i 0 = 18 → pl t (i + 1) = pl t i + 2 ∧ pl t i + 2 ≤ L' t ∧ ordAt X' t (pl t i) = (1, 6, 0, 0) ∧ ordAt X' t (pl t i + 1) = (9, (m : Int) + X t i 1, 6, 0)
/-- What a lock's word holds. -/
def lockV (o : Int) : Int := if o = -1 then 0 else 1
/-- What waits, with words in place of locks. -/
def wmap (m : Nat) (x : Wt) : Wt := if x.lk then ⟨false, (m : Int) + x.wh, 0⟩ else x
/-- What an order does, with words in place of locks. -/
def akM (m : Nat) : Ak → Ak
  | .take a => .swap ((m : Int) + a) 1
  | .free a => .put ((m : Int) + a) 0
  | k => k
/-- Registers: the program's own are the same. -/
def RgR (rg : Nat) (a s : List Int) : Prop := s.length = 8 ∧ ∀ r : Nat, r < rg → s.getD r 0 = a.getD r 0
/-- Where a thread stands: at the first of what its order became, or within it. -/
def PosT (L : Nat → Nat) (X : Nat → Nat → Nat → Int) (pl : Nat → Nat → Nat) (t i j : Nat) (rs : List Int) : Prop :=
  j = pl t i ∨
  (i < L t ∧ X t i 0 = 17 ∧ j = pl t i + 1 ∧ rs.getD 6 0 = 0) ∨
  (i < L t ∧ X t i 0 = 17 ∧ j = pl t i + 2 ∧ rs.getD 6 0 = 0 ∧ rs.getD 7 0 = 1) ∨
  (i < L t ∧ X t i 0 = 17 ∧ j = pl t i + 3 ∧ rs.getD 6 0 = 0) ∨
  (i < L t ∧ X t i 0 = 18 ∧ j = pl t i + 1 ∧ rs.getD 6 0 = 0) ∨
  ∃ k, k < L t ∧ X t k 0 = 17 ∧ i = k + 1 ∧ j = pl t k + 3 ∧ rs.getD 6 0 = 1
/-- How a thread stands to that of the program with locks. -/
structure STh (L : Nat → Nat) (X : Nat → Nat → Nat → Int) (pl : Nat → Nat → Nat) (m rg t : Nat) (a s : Th) : Prop where
  rg : RgR rg a.regs s.regs
  wait : s.wait = a.wait.map (wmap m)
  pos : PosT L X pl t a.pc s.pc s.regs
/-- How a state stands to that of the program with locks. -/
structure SSt (n m rg : Nat) (L : Nat → Nat) (X : Nat → Nat → Nat → Int) (pl : Nat → Nat → Nat) (A S : Sx) : Prop where
  len : S.ths.length = n
  words : S.words = A.words ++ A.own.map lockV
  prints : S.prints = A.prints
  fell : S.fell = false
  th : ∀ t, t < n → STh L X pl m rg t (thOf A t) (thOf S t)

theorem RgR.set {rg : Nat} {a s : List Int} (h : RgR rg a s) (hl : a.length = rg) (hg : rg ≤ 6) {r : Int} (v : Int) : RgR rg (a.set r.toNat v) (s.set r.toNat v) := by
  refine ⟨by rw [List.length_set]; exact h.1, fun k hk => ?_⟩
  by_cases e : r.toNat = k
  · rw [e]
    have h1 := h.1
    simp [List.getD, hl, hk, h1, show k < 8 by omega]
  · rw [List.getD_eq_getElem?_getD, List.getD_eq_getElem?_getD, List.getElem?_set_ne e, List.getElem?_set_ne e, ← List.getD_eq_getElem?_getD, ← List.getD_eq_getElem?_getD]
    exact h.2 k hk
theorem RgR.far {rg : Nat} {a s : List Int} (h : RgR rg a s) {k : Nat} (hk : rg ≤ k) (v : Int) : RgR rg a (s.set k v) := by
  refine ⟨by rw [List.length_set]; exact h.1, fun r hr => ?_⟩
  rw [List.getD_eq_getElem?_getD, List.getElem?_set_ne (by omega), ← List.getD_eq_getElem?_getD]
  exact h.2 r hr
theorem RgR.get {rg : Nat} {a s : List Int} (h : RgR rg a s) {r : Int} (h0 : 0 ≤ r) (hr : r < rg) : s.getD r.toNat 0 = a.getD r.toNat 0 := h.2 _ (by omega)
theorem get_set_same {s : List Int} {k : Nat} (h : k < s.length) (v : Int) : (s.set k v).getD k 0 = v := by simp [List.getD, h]
theorem get_set_far {s : List Int} {k r : Nat} (h : k ≠ r) (v : Int) : (s.set k v).getD r 0 = s.getD r 0 := by
  rw [List.getD_eq_getElem?_getD, List.getElem?_set_ne h, ← List.getD_eq_getElem?_getD]
/-- An order that is not of locks does the same to the program's own registers. -/
theorem eff_rg {rg m m' lk sz : Nat} {op a b c : Int} (ho : ordE rg m lk sz op a b c = 0) (h17 : op ≠ 17) (h18 : op ≠ 18) {pc : Nat} {rs rs' : List Int} {rd rd' : Int → Int} {fr fr' : Int → Bool} (hr : RgR rg rs rs') (hl : rs.length = rg) (hg : rg ≤ 6) (hrd : ∀ w, 0 ≤ w → w < (m : Int) → rd' w = rd w) (hm : m ≤ m') {p : Nat} {r : List Int} {k : Ak} (h : effX pc rs rd fr m op a b c = some (p, r, k)) :
    ∃ r', effX pc rs' rd' fr' m' op a b c = some (p, r', k) ∧ RgR rg r r' := by
  have g : ∀ {x : Int}, 0 ≤ x ∧ x < (rg : Int) → rs'.getD x.toNat 0 = rs.getD x.toNat 0 := fun hx => hr.get hx.1 hx.2
  unfold effX at h ⊢
  rcases op_cases op with h1 | rfl | rfl | rfl | rfl | rfl | rfl | rfl | rfl | rfl | rfl | rfl | rfl | rfl | rfl | rfl | rfl | rfl | rfl
  · have := ok_op ho
    omega
  all_goals simp only [Int.reduceEq, ↓reduceIte] at h ⊢
  · have o := ok_const ho
    cases h
    exact ⟨_, rfl, hr.set hl hg _⟩
  · have o := ok_rr (Or.inl rfl) ho
    cases h
    rw [g o.2]
    exact ⟨_, rfl, hr.set hl hg _⟩
  · have o := ok_rrr (Or.inl rfl) ho
    cases h
    rw [g o.2.1, g o.2.2]
    exact ⟨_, rfl, hr.set hl hg _⟩
  · have o := ok_rrr (Or.inr (Or.inl rfl)) ho
    cases h
    rw [g o.2.1, g o.2.2]
    exact ⟨_, rfl, hr.set hl hg _⟩
  · have o := ok_rrr (Or.inr (Or.inr (Or.inl rfl))) ho
    cases h
    rw [g o.2.1, g o.2.2]
    exact ⟨_, rfl, hr.set hl hg _⟩
  · have o := ok_rrr (Or.inr (Or.inr (Or.inr (Or.inl rfl)))) ho
    cases h
    simp only [g o.2.1, g o.2.2]
    exact ⟨_, rfl, hr.set hl hg _⟩
  · have o := ok_rrr (Or.inr (Or.inr (Or.inr (Or.inr rfl)))) ho
    cases h
    simp only [g o.2.1, g o.2.2]
    exact ⟨_, rfl, hr.set hl hg _⟩
  · have o := ok_load ho
    cases h
    rw [hrd _ o.2.1 o.2.2]
    exact ⟨_, rfl, hr.set hl hg _⟩
  · have o := ok_store ho
    cases h
    rw [g o.2]
    exact ⟨_, rfl, hr⟩
  · have o := ok_rr (Or.inr (Or.inl rfl)) ho
    rw [g o.2]
    split at h
    · cases h
    · rename_i h1
      cases h
      rw [if_neg (by omega), hrd _ (by omega) (by omega)]
      exact ⟨_, rfl, hr.set hl hg _⟩
  · have o := ok_rr (Or.inr (Or.inr rfl)) ho
    rw [g o.2, g o.1]
    split at h
    · cases h
    · rename_i h1
      cases h
      rw [if_neg (by omega)]
      exact ⟨_, rfl, hr⟩
  · cases h
    exact ⟨_, rfl, hr⟩
  · have o := ok_cas ho
    rw [g o.2.1, g o.2.2, hrd _ o.1.1 o.1.2]
    split at h
    · rename_i h1
      cases h
      rw [if_pos h1]
      exact ⟨_, rfl, hr.set hl hg _⟩
    · rename_i h1
      cases h
      rw [if_neg h1]
      exact ⟨_, rfl, hr.set hl hg _⟩
  · cases h
    exact ⟨_, rfl, hr⟩
  · have o := ok_zero ho
    simp only [g o.1]
    split at h
    · rename_i h1
      cases h
      rw [if_pos h1]
      exact ⟨_, rfl, hr⟩
    · rename_i h1
      cases h
      rw [if_neg h1]
      exact ⟨_, rfl, hr⟩
  · have o := ok_print ho
    cases h
    rw [g o]
    exact ⟨_, rfl, hr⟩
  · exact absurd rfl h17
  · exact absurd rfl h18
theorem hit_map {m : Nat} {w : Int} (hw : w < m) {x : Wt} (hx : x.lk = true → 0 ≤ x.wh) : hitW w (wmap m x) = hitW w x := by
  unfold wmap hitW
  cases e : x.lk with
  | false => simp [e]
  | true =>
    have := hx e
    simp only [↓reduceIte, Bool.not_false, Bool.true_and, Bool.not_true, Bool.false_and]
    exact decide_eq_false (by omega)
theorem what_map {m : Nat} {w : Int} {x : Wt} (h : hitW w x = true) : (wmap m x).what = x.what := by
  unfold hitW at h
  unfold wmap
  cases e : x.lk with
  | false => simp
  | true => rw [e] at h; simp at h
theorem last_map {m : Nat} {w : Int} (hw : w < m) : ∀ {l : List Wt}, (∀ x, x ∈ l → x.lk = true → 0 ≤ x.wh) → lastI (l.map (wmap m)) w = lastI l w
  | [], _ => rfl
  | x :: l, h => by
    rw [List.map_cons, lastI_cons, lastI_cons, last_map hw (fun y hy => h y (by simp [hy])), hit_map hw (h x (by simp))]
    cases e : hitW w x with
    | false => rfl
    | true => rw [if_pos rfl, if_pos rfl, what_map e]
theorem ownw_low {A : Sx} {l : List Int} {w : Int} (h : w.toNat < A.words.length) : (A.words ++ l).getD w.toNat 0 = A.words.getD w.toNat 0 := by
  rw [List.getD_eq_getElem?_getD, List.getElem?_append_left h, ← List.getD_eq_getElem?_getD]
section
variable {n m lk rg : Nat} {L L' : Nat → Nat} {X X' : Nat → Nat → Nat → Int} {pl : Nat → Nat → Nat} {mode : Int}
/-- What a thread finds in the program's own words is the same. -/
theorem SSt.finds {A S : Sx} (h : SSt n m rg L X pl A S) (hok : SOk n L m lk rg mode A) {t : Nat} (ht : t < n) {w : Int} (h0 : 0 ≤ w) (hw : w < m) : findsW S t w = findsW A t w := by
  rw [finds_last, finds_last, (h.th t ht).wait, last_map hw (fun x hx hl => (hok.wok t ht x hx).1.1), h.words, ownw_low (by rw [hok.words]; omega)]
/-- A lock's word. -/
theorem SSt.lock {A S : Sx} (h : SSt n m rg L X pl A S) (hok : SOk n L m lk rg mode A) {a : Int} (h0 : 0 ≤ a) (ha : a < lk) : S.words.getD ((m : Int) + a).toNat 0 = lockV (A.own.getD a.toNat 0) := by
  obtain ⟨k, rfl, hk⟩ := toN ⟨h0, ha⟩
  have e : ((m : Int) + (k : Int)).toNat = m + k := by omega
  have hkl : k < A.own.length := by rw [hok.own]; exact hk
  rw [h.words, e, List.getD_eq_getElem?_getD, List.getElem?_append_right (by rw [hok.words]; omega), hok.words, show m + k - m = k by omega]
  simp [List.getD, hkl]
theorem ownw_set {A : Sx} {l : List Int} {a : Int} (h : a.toNat < A.words.length) (v : Int) : (A.words ++ l).set a.toNat v = A.words.set a.toNat v ++ l := List.set_append_left _ _ h
theorem lockw_set {A : Sx} (hm : A.words.length = m) {a : Int} (h0 : 0 ≤ a) (v : Int) : (A.words ++ A.own.map lockV).set ((m : Int) + a).toNat (lockV v) = A.words ++ (A.own.set a.toNat v).map lockV := by
  have e : ((m : Int) + a).toNat = m + a.toNat := by omega
  rw [e, List.set_append_right _ _ (by omega), hm, show m + a.toNat - m = a.toNat by omega, List.map_set]
/-- What an order does is what may be. -/
def AkOk (m lk : Nat) : Ak → Prop
  | .put a _ => 0 ≤ a ∧ a < m
  | .swap a _ => 0 ≤ a ∧ a < m
  | .free a => 0 ≤ a ∧ a < lk
  | .take a => 0 ≤ a ∧ a < lk
  | _ => True
theorem STh.push {t : Nat} {a s : Th} (h : STh L X pl m rg t a s) (x : Wt) : STh L X pl m rg t { a with wait := a.wait ++ [x] } { s with wait := s.wait ++ [wmap m x] } :=
  ⟨h.rg, by show s.wait ++ _ = (a.wait ++ [x]).map (wmap m); rw [h.wait, List.map_append]; rfl, h.pos⟩
/-- A thread stands elsewhere. -/
theorem SSt.set {A S : Sx} (h : SSt n m rg L X pl A S) (hA : A.ths.length = n) {t : Nat} (ht : t < n) {a s : Th} (hs : STh L X pl m rg t a s) : SSt n m rg L X pl (setTh A t a) (setTh S t s) := by
  refine ⟨by rw [← h.len]; simp [setTh], h.words, h.prints, h.fell, fun u hu => ?_⟩
  rw [thOf_set (by rw [hA]; exact ht), thOf_set (by rw [h.len]; exact ht)]
  by_cases e : u = t
  · rw [if_pos e, if_pos e, e]; exact hs
  · rw [if_neg e, if_neg e]; exact h.th u hu
theorem SSt.done {A S : Sx} (h : SSt n m rg L X pl A S) (hA : A.words.length = m) {x : Wt} (hx : 0 ≤ x.wh) (hm : x.lk = false → x.wh < m) : SSt n m rg L X pl (doneW A x) (doneW S (wmap m x)) := by
  unfold doneW wmap
  cases e : x.lk with
  | false =>
    simp only [Bool.false_eq_true, ↓reduceIte, e]
    refine ⟨h.len, ?_, h.prints, h.fell, h.th⟩
    show S.words.set _ _ = A.words.set _ _ ++ _
    rw [h.words]
    exact ownw_set (by have := hm e; omega) _
  | true =>
    simp only [↓reduceIte, Bool.false_eq_true]
    refine ⟨h.len, ?_, h.prints, h.fell, h.th⟩
    show S.words.set _ _ = A.words ++ (A.own.set _ _).map lockV
    rw [h.words]
    exact lockw_set hA hx (-1)
theorem SSt.store {A S : Sx} (h : SSt n m rg L X pl A S) (hA : A.words.length = m) (hl : A.ths.length = n) {t : Nat} (ht : t < n) {x : Wt} (hx : 0 ≤ x.wh) (hm : x.lk = false → x.wh < m) : SSt n m rg L X pl (storeW mode A t x) (storeW mode S t (wmap m x)) := by
  unfold storeW
  split
  · exact h.set hl ht ((h.th t ht).push x)
  · exact h.done hA hx hm
/-- What an order does, done to both. -/
theorem SSt.act {A S : Sx} (h : SSt n m rg L X pl A S) (hA : A.words.length = m) (hl : A.ths.length = n) {t : Nat} (ht : t < n) {k : Ak} (hk : AkOk m lk k) : SSt n m rg L X pl (actX mode A t k) (actX mode S t (akM m k)) := by
  cases k with
  | no => exact h
  | put a v => exact h.store (x := ⟨false, a, v⟩) hA hl ht hk.1 (fun _ => hk.2)
  | free a => exact h.store (x := ⟨true, a, 0⟩) hA hl ht hk.1 (fun e => Bool.noConfusion e)
  | take a =>
    refine ⟨h.len, ?_, h.prints, h.fell, h.th⟩
    show S.words.set _ _ = A.words ++ (A.own.set _ _).map lockV
    rw [h.words]
    have := lockw_set (m := m) hA hk.1 (t : Int)
    have e : lockV (t : Int) = 1 := by unfold lockV; rw [if_neg (by omega)]
    rw [e] at this
    exact this
  | swap a v =>
    refine ⟨h.len, ?_, h.prints, h.fell, h.th⟩
    show S.words.set _ _ = A.words.set _ _ ++ _
    rw [h.words]
    exact ownw_set (by rw [hA]; have := hk.1; have := hk.2; omega) _
  | say v => exact ⟨h.len, h.words, by show S.prints ++ _ = A.prints ++ _; rw [h.prints], h.fell, h.th⟩
/-- An order that may be does what may be. -/
theorem eff_ak {sz : Nat} {op a b c : Int} (ho : ordE rg m lk sz op a b c = 0) {pc : Nat} {rs : List Int} {rd : Int → Int} {fr : Int → Bool} {p : Nat} {r : List Int} {k : Ak} (h : effX pc rs rd fr m op a b c = some (p, r, k)) : AkOk m lk k := by
  unfold effX at h
  rcases op_cases op with h1 | rfl | rfl | rfl | rfl | rfl | rfl | rfl | rfl | rfl | rfl | rfl | rfl | rfl | rfl | rfl | rfl | rfl | rfl
  · have := ok_op ho
    omega
  all_goals simp only [Int.reduceEq, ↓reduceIte] at h
  all_goals try (cases h; exact trivial)
  · have o := ok_store ho
    cases h
    exact o.1
  · split at h
    · cases h
    · cases h; exact trivial
  · split at h
    · cases h
    · rename_i h1
      cases h
      show 0 ≤ _ ∧ _ < _
      omega
  · have o := ok_cas ho
    split at h
    · cases h; exact o.1
    · cases h; exact trivial
  · split at h <;> (cases h; exact trivial)
  · have o := ok_lock (Or.inl rfl) ho
    cases h
    exact o
  · have o := ok_lock (Or.inr rfl) ho
    split at h
    · cases h; exact o
    · cases h
end

end Go.Proofs.Ytefnmbnakphhfad
