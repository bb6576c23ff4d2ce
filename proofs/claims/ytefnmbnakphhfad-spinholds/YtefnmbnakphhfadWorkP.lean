/-
  What holds of a state in every run of a program that may be; what an order's numbers may be.
  Outcomes and their order; all that can be come to, and what is told of it: plain functions.
  A state's numbers, by the document and by the program, tell it; what a state becomes, what runs come to.
  A program that passed Check.
-/
import Derived.Test.YtefnmbnakphhfadDSt
import Derived.Test.YtefnmbnakphhfadPlain
namespace Go.Proofs.Ytefnmbnakphhfad
section
open Go.RowKit

/-- What holds of a state in every run: of n threads, m words, lk locks, rg registers a thread. -/
structure SOk (n : Nat) (L : Nat → Nat) (m lk rg : Nat) (mode : Int) (s : Sx) : Prop where
  ths : s.ths.length = n
  pc : ∀ t, t < n → (thOf s t).pc ≤ L t
  regs : ∀ t, t < n → (thOf s t).regs.length = rg
  words : s.words.length = m
  own : s.own.length = lk
  wlen : ∀ t, t < n → (thOf s t).wait.length ≤ 3
  wok : ∀ t, t < n → ∀ x, x ∈ (thOf s t).wait → (0 ≤ x.wh ∧ x.wh < (if x.lk then lk else m : Nat)) ∧ (x.lk = true → x.what = 0)
  bare : mode = 0 → ∀ t, t < n → (thOf s t).wait = []

/-- The orders may be. -/
structure COk (n : Nat) (L : Nat → Nat) (X : Nat → Nat → Nat → Int) (m lk rg : Nat) : Prop where
  n4 : n ≤ 4
  L4 : ∀ t, t < n → L t ≤ 1000
  m64 : m ≤ 64
  lk4 : lk ≤ 4
  rg0 : 1 ≤ rg
  rg2 : rg ≤ 200
  ord : ∀ t i, t < n → i < L t → ordE rg m lk (L t) (X t i 0) (X t i 1) (X t i 2) (X t i 3) = 0

section
variable {rg m lk sz : Nat} {op a b c : Int}
theorem ok_op (h : ordE rg m lk sz op a b c = 0) : 1 ≤ op ∧ op ≤ 18 := by
  rcases op_cases op with h1 | h1
  · exfalso
    unfold ordE at h
    rw [kd_out h1] at h
    simp at h
  · omega
theorem ok_three {rg m lk sz : Int} {x y z : Int} (hk : kd op = some (x, y, z)) (h : ordE rg m lk sz op a b c = 0) : okN rg m lk sz x a = true ∧ okN rg m lk sz y b = true ∧ okN rg m lk sz z c = true := by
  unfold ordE at h
  rw [hk] at h
  simp only at h
  split at h
  · rename_i h1; simpa [and_assoc] using h1
  · omega
theorem okN_reg {rg m lk sz n : Int} (h : okN rg m lk sz 1 n = true) : 0 ≤ n ∧ n < rg := by simpa [okN, lim] using h
theorem okN_word {rg m lk sz n : Int} (h : okN rg m lk sz 2 n = true) : 0 ≤ n ∧ n < m := by simpa [okN, lim] using h
theorem okN_lock {rg m lk sz n : Int} (h : okN rg m lk sz 3 n = true) : 0 ≤ n ∧ n < lk := by simpa [okN, lim] using h
theorem okN_place {rg m lk sz n : Int} (h : okN rg m lk sz 4 n = true) : 0 ≤ n ∧ n ≤ sz := by
  have : 0 ≤ n ∧ n < sz + 1 := by simpa [okN, lim] using h
  omega
/-- An order of three registers. -/
theorem ok_rrr (ho : op = 3 ∨ op = 4 ∨ op = 5 ∨ op = 6 ∨ op = 7) (h : ordE rg m lk sz op a b c = 0) : (0 ≤ a ∧ a < rg) ∧ (0 ≤ b ∧ b < rg) ∧ (0 ≤ c ∧ c < rg) := by
  have hk : kd op = some (1, 1, 1) := by rcases ho with rfl | rfl | rfl | rfl | rfl <;> rfl
  have := ok_three hk h
  exact ⟨okN_reg this.1, okN_reg this.2.1, okN_reg this.2.2⟩
theorem ok_const (h : ordE rg m lk sz 1 a b c = 0) : 0 ≤ a ∧ a < rg := okN_reg (ok_three (op := 1) rfl h).1
theorem ok_rr (ho : op = 2 ∨ op = 10 ∨ op = 11) (h : ordE rg m lk sz op a b c = 0) : (0 ≤ a ∧ a < rg) ∧ (0 ≤ b ∧ b < rg) := by
  have hk : kd op = some (1, 1, 0) := by rcases ho with rfl | rfl | rfl <;> rfl
  have := ok_three hk h
  exact ⟨okN_reg this.1, okN_reg this.2.1⟩
theorem ok_load (h : ordE rg m lk sz 8 a b c = 0) : (0 ≤ a ∧ a < rg) ∧ (0 ≤ b ∧ b < m) := by
  have := ok_three (op := 8) rfl h
  exact ⟨okN_reg this.1, okN_word this.2.1⟩
theorem ok_store (h : ordE rg m lk sz 9 a b c = 0) : (0 ≤ a ∧ a < m) ∧ (0 ≤ b ∧ b < rg) := by
  have := ok_three (op := 9) rfl h
  exact ⟨okN_word this.1, okN_reg this.2.1⟩
theorem ok_cas (h : ordE rg m lk sz 13 a b c = 0) : (0 ≤ a ∧ a < m) ∧ (0 ≤ b ∧ b < rg) ∧ (0 ≤ c ∧ c < rg) := by
  have := ok_three (op := 13) rfl h
  exact ⟨okN_word this.1, okN_reg this.2.1, okN_reg this.2.2⟩
theorem ok_jump (h : ordE rg m lk sz 14 a b c = 0) : 0 ≤ a ∧ a ≤ sz := okN_place (ok_three (op := 14) rfl h).1
theorem ok_zero (h : ordE rg m lk sz 15 a b c = 0) : (0 ≤ a ∧ a < rg) ∧ (0 ≤ b ∧ b ≤ sz) := by
  have := ok_three (op := 15) rfl h
  exact ⟨okN_reg this.1, okN_place this.2.1⟩
theorem ok_print (h : ordE rg m lk sz 16 a b c = 0) : 0 ≤ a ∧ a < rg := okN_reg (ok_three (op := 16) rfl h).1
theorem ok_lock (ho : op = 17 ∨ op = 18) (h : ordE rg m lk sz op a b c = 0) : 0 ≤ a ∧ a < lk := by
  have hk : kd op = some (3, 0, 0) := by rcases ho with rfl | rfl <;> rfl
  exact okN_lock (ok_three hk h).1
end
theorem toN {a : Int} {n : Nat} (h : 0 ≤ a ∧ a < n) : ∃ k : Nat, a = k ∧ k < n := ⟨a.toNat, by omega, by omega⟩
theorem toN_le {a : Int} {n : Nat} (h : 0 ≤ a ∧ a ≤ n) : ∃ k : Nat, a = k ∧ k ≤ n := ⟨a.toNat, by omega, by omega⟩
end

section
open Go.RowKit

/-! Outcomes and their order. -/
/-- An outcome: how a run ended, the words, what was printed. -/
structure Oc where
  st : Int
  ws : List Int
  pr : List Int
deriving DecidableEq, Inhabited
/-- The order of lists. -/
def lexL : List Int → List Int → Bool
  | [], [] => false
  | [], _ :: _ => true
  | _ :: _, [] => false
  | a :: l, b :: r => if a = b then lexL l r else decide (a < b)
/-- The order of outcomes. -/
def aheadO (a b : Oc) : Bool := if a.st ≠ b.st then decide (a.st < b.st) else if a.ws ≠ b.ws then lexL a.ws b.ws else lexL a.pr b.pr
theorem lex_irr : ∀ l : List Int, lexL l l = false
  | [] => rfl
  | a :: l => by unfold lexL; rw [if_pos rfl]; exact lex_irr l
theorem lex_trans : ∀ {a b c : List Int}, lexL a b = true → lexL b c = true → lexL a c = true
  | [], _, [], h1, h2 => by
    rename_i b
    cases b with
    | nil => cases h1
    | cons x r => cases h2
  | [], _, _ :: _, _, _ => rfl
  | _ :: _, [], _, h1, _ => by cases h1
  | _ :: _, _ :: _, [], _, h2 => by cases h2
  | x :: a, y :: b, z :: c, h1, h2 => by
    unfold lexL at h1 h2 ⊢
    by_cases e1 : x = y
    · rw [if_pos e1] at h1
      by_cases e2 : y = z
      · rw [if_pos e2] at h2
        rw [if_pos (e1.trans e2)]
        exact lex_trans h1 h2
      · rw [if_neg e2] at h2
        rw [if_neg (by rw [e1]; exact e2), e1]
        exact h2
    · rw [if_neg e1] at h1
      have h1 := of_decide_eq_true h1
      by_cases e2 : y = z
      · rw [if_neg (by rw [← e2]; exact e1), ← e2]
        exact decide_eq_true h1
      · rw [if_neg e2] at h2
        have h2 := of_decide_eq_true h2
        rw [if_neg (by omega)]
        exact decide_eq_true (by omega)
theorem lex_tri : ∀ {a b : List Int}, lexL a b = false → lexL b a = false → a = b
  | [], [], _, _ => rfl
  | [], _ :: _, h, _ => by cases h
  | _ :: _, [], _, h => by cases h
  | x :: a, y :: b, h1, h2 => by
    unfold lexL at h1 h2
    by_cases e : x = y
    · rw [if_pos e] at h1
      rw [if_pos e.symm] at h2
      rw [e, lex_tri h1 h2]
    · rw [if_neg e] at h1
      rw [if_neg (fun h => e h.symm)] at h2
      have h1 := of_decide_eq_false h1
      have h2 := of_decide_eq_false h2
      omega
theorem ahead_irr (a : Oc) : aheadO a a = false := by
  unfold aheadO
  rw [if_neg (by simp), if_neg (by simp)]
  exact lex_irr _
theorem ahead_trans {a b c : Oc} (h1 : aheadO a b = true) (h2 : aheadO b c = true) : aheadO a c = true := by
  unfold aheadO at *
  by_cases e1 : a.st = b.st
  · rw [if_neg (by simpa using e1)] at h1
    by_cases e2 : b.st = c.st
    · rw [if_neg (by simpa using e2)] at h2
      rw [if_neg (by rw [e1, e2]; simp)]
      by_cases w1 : a.ws = b.ws
      · rw [if_neg (by simpa using w1)] at h1
        by_cases w2 : b.ws = c.ws
        · rw [if_neg (by simpa using w2)] at h2
          rw [if_neg (by rw [w1, w2]; simp)]
          exact lex_trans h1 h2
        · rw [if_pos w2] at h2
          rw [if_pos (by rw [w1]; exact w2), w1]
          exact h2
      · rw [if_pos w1] at h1
        by_cases w2 : b.ws = c.ws
        · rw [if_pos (by rw [← w2]; exact w1), ← w2]
          exact h1
        · rw [if_pos w2] at h2
          have h3 := lex_trans h1 h2
          rw [if_pos (fun e => by rw [e, lex_irr] at h3; cases h3)]
          exact h3
    · rw [if_pos e2] at h2
      rw [if_pos (by rw [e1]; exact e2), e1]
      exact h2
  · rw [if_pos e1] at h1
    have h1 := of_decide_eq_true h1
    by_cases e2 : b.st = c.st
    · rw [if_pos (by rw [← e2]; exact e1), ← e2]
      exact decide_eq_true h1
    · rw [if_pos e2] at h2
      have h2 := of_decide_eq_true h2
      rw [if_pos (by omega)]
      exact decide_eq_true (by omega)
theorem ahead_tri {a b : Oc} (h1 : aheadO a b = false) (h2 : aheadO b a = false) : a = b := by
  unfold aheadO at *
  by_cases e : a.st = b.st
  · rw [if_neg (by simpa using e)] at h1
    rw [if_neg (by simpa using e.symm)] at h2
    have ew : a.ws = b.ws := by
      by_cases w : a.ws = b.ws
      · exact w
      · rw [if_pos w] at h1
        rw [if_pos (fun h => w h.symm)] at h2
        exact lex_tri h1 h2
    rw [if_neg (by simpa using ew)] at h1
    rw [if_neg (by simpa using ew.symm)] at h2
    have ep := lex_tri h1 h2
    cases a; cases b
    simp only at e ew ep
    subst e ew ep
    rfl
  · rw [if_pos e] at h1
    rw [if_pos (fun h => e h.symm)] at h2
    have h1 := of_decide_eq_false h1
    have h2 := of_decide_eq_false h2
    omega
theorem ahead_asym {a b : Oc} (h : aheadO a b = true) : aheadO b a = false := by
  cases e : aheadO b a with
  | false => rfl
  | true => have := ahead_trans h e; rw [ahead_irr] at this; cases this
/-- Each comes ahead of all that stand behind it. -/
def SortedO (l : List Oc) : Prop := l.Pairwise fun a b => aheadO a b = true
theorem sorted_same : ∀ {l r : List Oc}, SortedO l → SortedO r → (∀ o, o ∈ l ↔ o ∈ r) → l = r
  | [], [], _, _, _ => rfl
  | [], b :: r, _, _, h => by have := (h b).2 (by simp); cases this
  | a :: l, [], _, _, h => by have := (h a).1 (by simp); cases this
  | a :: l, b :: r, hl, hr, h => by
    rw [SortedO, List.pairwise_cons] at hl hr
    have ha := (h a).1 (by simp)
    have hb := (h b).2 (by simp)
    have e : a = b := by
      rcases List.mem_cons.mp ha with e | ha
      · exact e
      · rcases List.mem_cons.mp hb with e | hb
        · exact e.symm
        · have h1 := hl.1 b hb
          have h2 := hr.1 a ha
          rw [ahead_asym h1] at h2
          cases h2
    subst e
    have hna : ∀ {o}, o ∈ l → o ≠ a := fun ho e => by
      have := hl.1 _ ho
      rw [e, ahead_irr] at this
      cases this
    have hnr : ∀ {o}, o ∈ r → o ≠ a := fun ho e => by
      have := hr.1 _ ho
      rw [e, ahead_irr] at this
      cases this
    rw [sorted_same (l := l) (r := r) hl.2 hr.2 (fun o => ⟨fun ho => by
      rcases List.mem_cons.mp ((h o).1 (by simp [ho])) with e | e
      · exact absurd e (hna ho)
      · exact e, fun ho => by
      rcases List.mem_cons.mp ((h o).2 (by simp [ho])) with e | e
      · exact absurd e (hnr ho)
      · exact e⟩)]
/-- An outcome, into its place, once. -/
def insO (o : Oc) : List Oc → List Oc
  | [] => [o]
  | a :: l => if aheadO o a then o :: a :: l else if aheadO a o then a :: insO o l else a :: l
theorem mem_insO {o x : Oc} : ∀ {l : List Oc}, x ∈ insO o l ↔ x = o ∨ x ∈ l
  | [] => by simp [insO]
  | a :: l => by
    unfold insO
    split
    · simp
    · split
      · rw [List.mem_cons, mem_insO, List.mem_cons]
        constructor
        · rintro (h | h | h)
          · exact Or.inr (Or.inl h)
          · exact Or.inl h
          · exact Or.inr (Or.inr h)
        · rintro (h | h | h)
          · exact Or.inr (Or.inl h)
          · exact Or.inl h
          · exact Or.inr (Or.inr h)
      · rename_i h1 h2
        have e : o = a := ahead_tri (by simpa using h1) (by simpa using h2)
        subst e
        simp
theorem sorted_insO {o : Oc} : ∀ {l : List Oc}, SortedO l → SortedO (insO o l)
  | [], _ => List.pairwise_singleton _ _
  | a :: l, h => by
    unfold insO
    have h' := h
    rw [SortedO, List.pairwise_cons] at h'
    split
    · rename_i h1
      refine List.pairwise_cons.mpr ⟨fun x hx => ?_, h⟩
      rcases List.mem_cons.mp hx with e | hx
      · rw [e]; exact h1
      · exact ahead_trans h1 (h'.1 x hx)
    · split
      · rename_i h1 h2
        refine List.pairwise_cons.mpr ⟨fun x hx => ?_, sorted_insO h'.2⟩
        rcases mem_insO.mp hx with e | hx
        · rw [e]; exact h2
        · exact h'.1 x hx
      · exact h

/-! All that can be come to. -/
section
variable {S : Type}
inductive Rch (nx : S → List S) (s0 : S) : S → Prop
  | base : Rch nx s0 s0
  | step {s t : S} : Rch nx s0 s → t ∈ nx s → Rch nx s0 t
/-- What is told of all that can come: too many states, or all outcomes. -/
def Told (nx : S → List S) (outs : S → List Oc) (s0 : S) (mx : Nat) (full : Bool) (l : List Oc) : Prop :=
  (full = true ∧ ∃ K : List S, K.Nodup ∧ (∀ s, s ∈ K → Rch nx s0 s) ∧ mx < K.length) ∨ (full = false ∧ SortedO l ∧ (∀ o, o ∈ l ↔ ∃ s, Rch nx s0 s ∧ o ∈ outs s) ∧ ∃ K : List S, K.Nodup ∧ (∀ s, s ∈ K ↔ Rch nx s0 s) ∧ K.length ≤ mx)
/-- What holds while states are gone through: K known, P gone through, E outcomes so far. -/
structure Wk (nx : S → List S) (outs : S → List Oc) (s0 : S) (K : List S) (P : S → Prop) (E : Oc → Prop) : Prop where
  nodup : K.Nodup
  first : s0 ∈ K
  reach : ∀ s, s ∈ K → Rch nx s0 s
  known : ∀ s, P s → s ∈ K
  next : ∀ s, P s → ∀ t, t ∈ nx s → t ∈ K
  ends : ∀ o, E o → ∃ s, Rch nx s0 s ∧ o ∈ outs s
  all : ∀ s, P s → ∀ o, o ∈ outs s → E o
theorem Wk.whole {nx : S → List S} {outs : S → List Oc} {s0 : S} {K : List S} {P : S → Prop} {E : Oc → Prop} (h : Wk nx outs s0 K P E) (hP : ∀ s, s ∈ K → P s) : (∀ s, s ∈ K ↔ Rch nx s0 s) ∧ ∀ o, E o ↔ ∃ s, Rch nx s0 s ∧ o ∈ outs s := by
  have hr : ∀ s, Rch nx s0 s → s ∈ K := fun s hs => by
    induction hs with
    | base => exact h.first
    | step _ ht ih => exact h.next _ (hP _ ih) _ ht
  exact ⟨fun s => ⟨h.reach s, hr s⟩, fun o => ⟨h.ends o, fun ⟨s, hs, ho⟩ => h.all s (hP s (hr s hs)) o ho⟩⟩
theorem Wk.told {nx : S → List S} {outs : S → List Oc} {s0 : S} {K : List S} {P : S → Prop} {E : Oc → Prop} {mx : Nat} {l : List Oc} (h : Wk nx outs s0 K P E) (hP : ∀ s, s ∈ K → P s) (hs : SortedO l) (hl : ∀ o, o ∈ l ↔ E o) (hk : K.length ≤ mx) : Told nx outs s0 mx false l := by
  obtain ⟨h1, h2⟩ := h.whole hP
  exact Or.inr ⟨rfl, hs, fun o => (hl o).trans (h2 o), K, h.nodup, h1, hk⟩
theorem Wk.full {nx : S → List S} {outs : S → List Oc} {s0 : S} {K : List S} {P : S → Prop} {E : Oc → Prop} {mx : Nat} (l : List Oc) (h : Wk nx outs s0 K P E) (hk : mx < K.length) : Told nx outs s0 mx true l := Or.inl ⟨rfl, K, h.nodup, h.reach, hk⟩
end
end

section
open Go.RowKit

/-! A state's numbers. -/
/-- All that a thread is, by the document. -/
def numW (x : Wt) : List Int := [bitI x.lk, x.wh, x.what]
def numT (h : Th) : List Int := [(h.pc : Int), (h.wait.length : Int)] ++ h.regs ++ h.wait.flatMap numW
def numsX (s : Sx) : List Int := s.ths.flatMap numT ++ s.words ++ s.own ++ s.prints
theorem numW_inj {x y : Wt} (h : numW x = numW y) : x = y := by
  cases x with
  | mk a b c =>
    cases y with
    | mk a' b' c' =>
      simp only [numW, List.cons.injEq, and_true] at h
      obtain ⟨h1, rfl, rfl⟩ := h
      cases a <;> cases a' <;> first | rfl | cases h1
theorem flat_inj {f : Wt → List Int} {k : Nat} {Q : Wt → Prop} (hk : ∀ x, (f x).length = k) (hf : ∀ x y, Q x → Q y → f x = f y → x = y) : ∀ {l r : List Wt} {u v : List Int}, l.length = r.length → (∀ x, x ∈ l → Q x) → (∀ x, x ∈ r → Q x) → l.flatMap f ++ u = r.flatMap f ++ v → l = r ∧ u = v
  | [], [], _, _, _, _, _, h => ⟨rfl, h⟩
  | a :: l, b :: r, u, v, hl, h1, h2, h => by
    rw [List.flatMap_cons, List.flatMap_cons, List.append_assoc, List.append_assoc] at h
    obtain ⟨e1, e2⟩ := List.append_inj h (by rw [hk, hk])
    obtain ⟨e3, e4⟩ := flat_inj hk hf (by simpa using hl) (fun x hx => h1 x (by simp [hx])) (fun x hx => h2 x (by simp [hx])) e2
    rw [hf _ _ (h1 a (by simp)) (h2 b (by simp)) e1, e3]
    exact ⟨rfl, e4⟩
theorem numT_inj {a b : Th} {u v : List Int} (hr : a.regs.length = b.regs.length) (h : numT a ++ u = numT b ++ v) : a = b ∧ u = v := by
  cases a with
  | mk pa ra wa =>
    cases b with
    | mk pb rb wb =>
      simp only [numT, List.append_assoc, List.cons_append, List.nil_append, List.cons.injEq] at h
      obtain ⟨h1, h2, h3⟩ := h
      obtain ⟨e1, e2⟩ := List.append_inj h3 hr
      obtain ⟨e3, e4⟩ := flat_inj (k := 3) (Q := fun _ => True) (fun _ => rfl) (fun _ _ _ _ => numW_inj) (by omega) (fun _ _ => trivial) (fun _ _ => trivial) e2
      subst e1 e3
      exact ⟨by rw [show pa = pb by omega], e4⟩
theorem nums_ths : ∀ {l r : List Th} {u v : List Int} {rg : Nat}, l.length = r.length → (∀ x, x ∈ l → x.regs.length = rg) → (∀ x, x ∈ r → x.regs.length = rg) → l.flatMap numT ++ u = r.flatMap numT ++ v → l = r ∧ u = v
  | [], [], _, _, _, _, _, _, h => ⟨rfl, h⟩
  | a :: l, b :: r, u, v, rg, hl, h1, h2, h => by
    rw [List.flatMap_cons, List.flatMap_cons, List.append_assoc, List.append_assoc] at h
    obtain ⟨e1, e2⟩ := numT_inj (by rw [h1 a (by simp), h2 b (by simp)]) h
    obtain ⟨e3, e4⟩ := nums_ths (rg := rg) (by simpa using hl) (fun x hx => h1 x (by simp [hx])) (fun x hx => h2 x (by simp [hx])) e2
    rw [e1, e3]
    exact ⟨rfl, e4⟩
theorem SOk.mem {n : Nat} {L : Nat → Nat} {m lk rg : Nat} {mode : Int} {s : Sx} (h : SOk n L m lk rg mode s) {x : Th} (hx : x ∈ s.ths) : ∃ t, t < n ∧ thOf s t = x := by
  obtain ⟨t, ht, e⟩ := List.getElem_of_mem hx
  exact ⟨t, by rw [← h.ths]; exact ht, by unfold thOf; rw [List.getD_eq_getElem?_getD, List.getElem?_eq_getElem ht]; exact e⟩
/-- Two states of a program are the same where their numbers are. -/
theorem nums_inj {n : Nat} {L : Nat → Nat} {m lk rg : Nat} {mode : Int} {s r : Sx} (h1 : SOk n L m lk rg mode s) (h2 : SOk n L m lk rg mode r) (hf : s.fell = r.fell) (h : numsX s = numsX r) : s = r := by
  unfold numsX at h
  simp only [List.append_assoc] at h
  obtain ⟨e1, e2⟩ := nums_ths (rg := rg) (by rw [h1.ths, h2.ths]) (fun x hx => by obtain ⟨t, ht, rfl⟩ := h1.mem hx; exact h1.regs t ht) (fun x hx => by obtain ⟨t, ht, rfl⟩ := h2.mem hx; exact h2.regs t ht) h
  obtain ⟨e3, e4⟩ := List.append_inj e2 (by rw [h1.words, h2.words])
  obtain ⟨e5, e6⟩ := List.append_inj e4 (by rw [h1.own, h2.own])
  cases s; cases r
  simp only at e1 e3 e5 e6 hf
  subst e1 e3 e5 e6 hf
  rfl
/-! What a state becomes; what runs come to. -/
section
variable (L : Nat → Nat) (X : Nat → Nat → Nat → Int) (mode : Int)
def nxX (s : Sx) : List Sx := (movesX L X mode s).filterMap fun mv => if (doX X mode s mv.toNat).fell then none else some (doX X mode s mv.toNat)
def outsX (s : Sx) : List Oc :=
  (if movesX L X mode s = [] then [⟨if endedX L s then 0 else 2, s.words, s.prints⟩] else []) ++
    (movesX L X mode s).filterMap fun mv => if (doX X mode s mv.toNat).fell then some ⟨1, [], (doX X mode s mv.toNat).prints⟩ else none
end
end

section
open Go.RowKit

theorem bad_none {E : Nat → Int} : ∀ (f k : Nat), firstBad E f k = none → ∀ i, k ≤ i → i < k + f → E i = 0
  | 0, k, _, i, h1, h2 => by omega
  | f + 1, k, h, i, h1, h2 => by
    rw [firstBad] at h
    split at h
    · rename_i h0
      by_cases e : i = k
      · subst e; exact h0
      · exact bad_none f (k + 1) h i (by omega) (by omega)
    · cases h
theorem thread_ok {R : Nat → Option (Int × Int)} (hR : ∀ t c a, R t = some (c, a) → c ≠ 0) : ∀ (f k : Nat), (firstThread R f k).1 = 0 → ∀ i, k ≤ i → i < k + f → R i = none
  | 0, k, _, i, h1, h2 => by omega
  | f + 1, k, h, i, h1, h2 => by
    rw [firstThread] at h
    split at h
    · rename_i h0
      by_cases e : i = k
      · subst e; exact h0
      · exact thread_ok hR f (k + 1) h i (by omega) (by omega)
    · rename_i c a h0
      exact absurd h (hR k c a h0)
theorem thread_zero {R : Nat → Option (Int × Int)} (hR : ∀ t c a, R t = some (c, a) → c ≠ 0) : ∀ (f k : Nat), (firstThread R f k).1 = 0 → firstThread R f k = (0, 0, 0)
  | 0, _, _ => rfl
  | f + 1, k, h => by
    rw [firstThread] at h ⊢
    split at h
    · exact thread_zero hR f (k + 1) h
    · rename_i c a h0
      exact absurd h (hR k c a h0)
theorem bad_ne {E : Nat → Int} : ∀ (f k : Nat) (c a : Int), firstBad E f k = some (c, a) → c ≠ 0
  | 0, k, c, a, h => by simp [firstBad] at h
  | f + 1, k, c, a, h => by
    rw [firstBad] at h
    split at h
    · exact bad_ne f (k + 1) c a h
    · rename_i h0
      simp only [Option.some.injEq, Prod.mk.injEq] at h
      rw [← h.1]; exact h0
theorem thr_ne {rg wd lk : Int} {L : Nat → Nat} {X : Nat → Nat → Nat → Int} : ∀ t c a, thr rg wd lk L X t = some (c, a) → c ≠ 0 := fun t c a e => by
  unfold thr at e
  split at e
  · simp at e; omega
  · exact bad_ne _ _ _ _ e

/-- What Check lets pass: the sizes, every order. -/
theorem chk_cok {n m : Nat} {L : Nat → Nat} {X : Nat → Nat → Nat → Int} {lk rg x y z : Int} (h : chk n L X m lk rg = (x, y, z)) (hx : x = 0) : y = 0 ∧ z = 0 ∧ 0 < n ∧ ∃ lk' rg' : Nat, lk = lk' ∧ rg = rg' ∧ COk n L X m lk' rg' := by
  subst hx
  unfold chk at h
  split at h
  · rename_i h1
    simp only [Prod.mk.injEq] at h
    exact absurd h.1 h1
  · rename_i h1
    have h1 : sizesE n m lk rg = 0 := by simpa using h1
    unfold sizesE at h1
    split at h1
    · cases h1
    · split at h1
      · cases h1
      · rename_i h2 h3
        have hz := thread_zero thr_ne n 0 (by rw [h])
        rw [h] at hz
        simp only [Prod.mk.injEq] at hz
        have hR : ∀ t, t < n → thr rg m lk L X t = none := fun t ht => thread_ok thr_ne n 0 (by rw [h]) t (Nat.zero_le _) (by omega)
        have hL : ∀ t, t < n → L t ≤ 400 ∧ firstBad (fun i => ordE rg m lk (L t) (X t i 0) (X t i 1) (X t i 2) (X t i 3)) (L t) 0 = none := fun t ht => by
          have := hR t ht
          unfold thr at this
          split at this
          · cases this
          · exact ⟨by omega, this⟩
        obtain ⟨lk', rfl⟩ := Int.eq_ofNat_of_zero_le (by omega : 0 ≤ lk)
        obtain ⟨rg', rfl⟩ := Int.eq_ofNat_of_zero_le (by omega : 0 ≤ rg)
        exact ⟨hz.2.1, hz.2.2, by omega, lk', rg', rfl, rfl, by omega, fun t ht => Nat.le_trans (hL t ht).1 (by decide), by omega, by omega, by omega, by omega, fun t i ht hi => bad_none (L t) 0 (hL t ht).2 i (Nat.zero_le _) (by omega)⟩
end

end Go.Proofs.Ytefnmbnakphhfad
